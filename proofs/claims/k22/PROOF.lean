import PyProof.Rows.All
import Wide.All
import OpenK.AllK
import Wide.FinOn
import Lean
import PyProof.EqAt
import PyProof.EqKinds
import PyProof.TupleCall
import KE.KIntText
import PyProof.ZipIter
import PyProof.EnumFor
import PyProof.EnumMake
import PyProof.ExcClass3
import PyProof.ExcFactsAll.ValueError
import PyProof.ExcArgs
import PyProof.InstStoreFacts
import PyProof.ExcBaseAll.ValueError
import PyProof.Rows.FStr
import KE.KRevSl
import KE.KDictSum
import PyProof.NeKinds
import PyProof.MinMaxWalk
import PySem.Challenge.RW_drawhouse_k22_no_rows
set_option Elab.async false
set_option linter.all false
set_option maxRecDepth 100000
abbrev OP := List (PySem.Addr × PySem.Obj)
abbrev EV := PySem.Value -> PySem.Shared -> Prop
abbrev MG := PySem.Str -> Option PySem.Value
open PySem.W (instObj methodObj Frag lookIn plainGet hasDictIn findIn handedIn plainGet_of isFn plainOver takerIn makesIn typeIn emptyDict keepIn specialIn takesIn mroIn kitOne kia_one kitx_list kitx_dict callWith_K cellsFrom_some fnOf codeIn codeRec_of OpenLaw WalkO kitMeta nsIn readsIn findCls mg_of mg_none_of)
open Nat (lt_of_lt_of_le lt_irrefl ne_of_lt le_trans le_of_lt ne_of_gt le_refl zero_le le_of_eq le_succ not_lt zero_lt_one sub_self)
open List (mem_cons_self mem_cons_of_mem mem_cons mem_append mem_append_left mem_append_right any_eq_false length_cons map_cons length_map append_nil nodup_cons of_mem_zip length_take getElem?_append_right getElem?_append_left getElem?_map mem_of_getElem? length_append length_drop size_toArray replicate_succ flatten_cons append_assoc map_nil mem_map map_map forIn_cons lookup_cons all_eq_true mem_singleton set_set length_range range_succ map_append take_add_one take_length ext_getElem all_map any_map getElem?_eq_getElem take_of_length_le not_mem_nil contains_cons length_nil length_pos_iff getElem_mem map_drop)
open Bool (and_eq_true)
open Int (emod_nonneg emod_lt_of_pos)
open Option (bind_some)
open PySem.F (excBase_ValueError plainAttrs_str slot_str_join type_str_join plainAttrs_list slot_str_split type_str_split)
open PySem.Challenge (pw_drawhouse_k22_no_rows rw_drawhouse_k22_no_rows)
open PySem (boot_len)
open PyProof.Rows (boot_str boot_list boot_isinstance boot_all boot_tuple boot_int boot_bool)
theorem Z0 {p : Prop} (h : p := by decide) : p := h
theorem Z1 {p : Prop} (h : p := by omega) : p := h
theorem Z2 {p : Prop} (h : p := by simp) : p := h
theorem Z3 {p : Prop} (h : p := by rfl) : p := h
theorem Z4 {p : Prop} (h : p := by decide +kernel) : p := h
theorem Z5 {p : Prop} (h : p := by kernel_rfl) : p := h
theorem Z6 {p : Prop} (h : p := by simp; omega) : p := h
theorem Z7 {p : Prop} (h : p := by intro z; cases z) : p := h
namespace L2
open PySem PySem.Spec PyProof.Rows
abbrev Key := Sum Int Str
def Kf : Key -> Value -> Bool
 | .inl k, v => Value.isInt k v
 | .inr x, v => Value.isStrOf x v
def Yg (w : World) : Key -> Int
 | .inl k => hashInt k
 | .inr x => hashStr w x
theorem cD : ∀ {k : Key} {v : Value}, Kf k v = true -> (∃ i t, k = Sum.inl i /\ v = Value.int i t) \/ (∃ x t, k = Sum.inr x /\ v = Value.str x t)
 | .inl i, v, h => by
  obtain ⟨t, e⟩ := Value.isInt_shape (k := i) (v := v) h
  exact .inl ⟨i, t, rfl, e⟩
 | .inr x, v, h => by
  obtain ⟨t, e⟩ := Value.isStrOf_shape (x := x) (v := v) h
  exact .inr ⟨x, t, rfl, e⟩
theorem Lz (a b : Int) : decide ((Sum.inl a : Key) = Sum.inl b) = (a == b) := by
 by_cases e : a = b
 ·subst e; simp
 ·have h : ¬ (Sum.inl a : Key) = Sum.inl b := fun q => e (Sum.inl.inj q)
  rw [decide_eq_false h]
  exact (beq_eq_false_iff_ne.mpr e).symm
theorem LK (a b : Str) : decide ((Sum.inr a : Key) = Sum.inr b) = decide (a = b) := by
 by_cases e : a = b
 ·subst e; simp
 ·have h : ¬ (Sum.inr a : Key) = Sum.inr b := fun q => e (Sum.inr.inj q)
  rw [decide_eq_false h, decide_eq_false e]
theorem KJ (a : Int) (b : Str) : decide ((Sum.inl a : Key) = Sum.inr b) = false := decide_eq_false (fun q => nomatch q)
theorem K4 (a : Str) (b : Int) : decide ((Sum.inr a : Key) = Sum.inl b) = false := decide_eq_false (fun q => nomatch q)
def CN (prog : Program) (w : World) : PySem.KeyKind prog w Key where
 is := Kf
 hash := Yg w
 inj := fun v a b ha hb => by
  rcases cD ha with ⟨i, t, rfl, rfl⟩ | ⟨x, t, rfl, rfl⟩
  ·rcases cD hb with ⟨j, u, rfl, e⟩ | ⟨y, u, rfl, e⟩
   ·injection e with e1 _; rw [e1]
   ·exact nomatch e
  ·rcases cD hb with ⟨j, u, rfl, e⟩ | ⟨y, u, rfl, e⟩
   ·exact nomatch e
   ·injection e with e1 _; rw [e1]
 byValue := fun k v h => by
  rcases cD h with ⟨i, t, rfl, rfl⟩ | ⟨x, t, rfl, rfl⟩ <;> rfl
 pyHash := fun hv h => by
  rcases cD hv with ⟨i, t, rfl, rfl⟩ | ⟨x, t, rfl, rfl⟩
  ·exact wpAny_pyHash_int h
  ·exact wpAny_pyHash_str h
 eqBool := fun hu hv h => by
  rcases cD hu with ⟨i, t, rfl, rfl⟩ | ⟨x, t, rfl, rfl⟩
  ·rcases cD hv with ⟨j, u, rfl, rfl⟩ | ⟨y, u, rfl, rfl⟩
   ·rw [Lz] at h; exact wpAny_eqBool_int h
   ·rw [KJ] at h; exact SeqAt.EqAt.int_str i t y u _ _ _ _ h
  ·rcases cD hv with ⟨j, u, rfl, rfl⟩ | ⟨y, u, rfl, rfl⟩
   ·rw [K4] at h; exact SeqAt.EqAt.str_int x t j u _ _ _ _ h
   ·rw [LK] at h; exact wpAny_eqBool_str h
 «strs» := fun k x t v h => by
  rcases cD h with ⟨i, u, rfl, e⟩ | ⟨y, u, rfl, e⟩
  ·exact nomatch e
  ·injection e with e1 _
   subst e1
   cases v <;> rfl
inductive V where
 | non | bl (b : Bool) | int (i : Int) | str (x : Str) | byt (b : Array UInt8) | flt (b : UInt64) | ref (a : Addr) | ty (n : String)
 deriving DecidableEq
def RelV : V -> Value -> Prop
 | .non, u => u = Value.none
 | .bl b, u => u = Value.bool b
 | .int i, u => ∃ t, u = Value.int i t
 | .str x, u => ∃ t, u = Value.str x t
 | .byt b, u => ∃ t, u = Value.bytes b t
 | .flt b, u => ∃ t, u = Value.float b t
 | .ref a, u => u = Value.ref a
 | .ty n, u => u = Value.type n
abbrev Vals : List V -> List Value -> Prop := Paired RelV
theorem Vals.length {xs : List V} {us : List Value} (r : Vals xs us) : xs.length = us.length := Paired.length r
theorem Vals.get : ∀ {xs : List V} {us : List Value} {i : Nat} {x : V}, Vals xs us -> xs[i]? = some x -> ∃ u, us[i]? = some u /\ RelV x u
 | _, _, _, _, .nil, e => by simp at e
 | _, _, 0, _, .cons r _, e => by simp at e; subst e; exact ⟨_, rfl, r⟩
 | _, _, i + 1, x, .cons _ t, e => by
  obtain ⟨u, h1, h2⟩ := Vals.get (i := i) (x := x) t (by simpa using e)
  exact ⟨u, by simpa using h1, h2⟩
theorem Vals.append : ∀ {xs ys : List V} {us ws : List Value}, Vals xs us -> Vals ys ws -> Vals (xs ++ ys) (us ++ ws)
 | _, _, _, _, .nil, s => s
 | _, _, _, _, .cons r t, s => .cons r (Vals.append t s)
theorem Vals.take : ∀ {xs : List V} {us : List Value} (n : Nat), Vals xs us -> Vals (xs.take n) (us.take n)
 | _, _, 0, _ => .nil
 | _, _, _ + 1, .nil => .nil
 | _, _, n + 1, .cons r t => .cons r (Vals.take n t)
theorem Vals.drop : ∀ {xs : List V} {us : List Value} (n : Nat), Vals xs us -> Vals (xs.drop n) (us.drop n)
 | _, _, 0, r => r
 | _, _, _ + 1, .nil => .nil
 | _, _, n + 1, .cons _ t => Vals.drop n t
def pB : Option V -> Option Value -> Prop
 | some v, some u => RelV v u
 | none, none => True
 | _, _ => False
def KV {κ : Type} : List (κ × V) -> List (κ × Value) -> Prop := Paired fun (p : κ × V) (q : κ × Value) => p.1 = q.1 /\ RelV p.2 q.2
def kV : Key -> V
 | .inl i => .int i
 | .inr x => .str x
inductive HO where
 | lst (xs : List V)
 | tup (xs : List V)
 | dK (kvs : List (Key × V)) | dT (kvs : List (List Key × V))
 | set (S : Int -> Bool) (n : Nat)
 | ins (C dx : Addr) (fs : List (Str × V))
 | own (x : Addr)
 | xd (fs : List (Str × V))
 | met (f x : Addr)
 | rng (lo hi : Int)
 | frz (o : Obj) (u : HO)
 | tbl (ps : Array Value)
 | ext (φ : Heap -> Prop)
abbrev Hp := Addr -> Option HO
def upd (H : Hp) (a : Addr) (o : HO) : Hp := fun b => if b = a then some o else H b
theorem ao {H : Hp} {a : Addr} {o : HO} : upd H a o a = some o := by unfold upd; rw [if_pos rfl]
theorem aR {H : Hp} {a b : Addr} {o : HO} (h : b ≠ a) : upd H a o b = H b := by unfold upd; rw [if_neg h]
theorem uo {H : Hp} {a b : Addr} {o u : HO} (h : H a = some o) (h' : H b = some u) (d : o ≠ u) : a ≠ b := by
 intro e; subst e; rw [h] at h'; exact d (Option.some.inj h')
theorem aQ {H : Hp} {a b : Addr} {o : HO} (h : H a = some o) (h' : H b = none) : a ≠ b := by
 intro e; subst e; rw [h] at h'; cases h'
section
variable (P : Program) (w : World)
def cT (H : Hp) (h : Heap) (a : Addr) : HO -> Prop
 | .lst xs => xs.length <= sizeLine /\ ∃ (its : List Value) (n : Nat), Vals xs its /\ h.get? a = some { cls := .type "list", data := .seq its.toArray n }
 | .tup xs => xs.length <= sizeLine /\ ∃ its : List Value, Vals xs its /\ IsTup h a its.toArray
 | .dK kvs => kvs.length <= sizeLine /\ (a == sysModules) = false /\ ∃ vs, KV kvs vs /\ h.DictOf (CN P w) a vs
 | .dT kvs => kvs.length <= sizeLine /\ (a == sysModules) = false /\ ∃ xs : List (List Key × Addr × Value),
   Paired (fun (p : List Key × V) (q : List Key × Addr × Value) => p.1 = q.1 /\ H q.2.1 = some (.tup (p.1.map kV)) /\ RelV p.2 q.2.2) kvs xs /\
   ∃ o es ep, h.get? a = some o /\ o.ExactDict /\ o.data = .dict es ep /\ es.toList = xs.map (entryOfKey (tupleKind (CN P w))) /\ (xs.map (·.1)).Nodup
 | .set S n => h.SetOf (intKind P w) a S n
 | .ins C dx fs => H dx = some (.own a) /\ fs.length <= 1000 /\ dx ≠ a /\ h.get? a = some (instObj C dx) /\
   ∃ mA, h.Ns1 dx mA /\ (∀ f, pB (fs.lookup f) (mA f)) /\ PySem.Within mA (fs.map (·.1))
 | .own _ => ∃ o, h.get? a = some o
 | .xd fs => ∃ mA, h.Ns1 a mA /\ ∀ f, pB (fs.lookup f) (mA f)
 | .rng lo hi => ∃ t u v, h.get? a = some { cls := .type "range", data := .fields #[.int lo t, .int hi u, .int 1 v] }
 | .frz o u => h.get? a = some o /\ cT H h a u
 | .tbl ps => h.get? a = some { cls := .none, data := .fields ps }
 | .met f x => h.get? a = some (methodObj (.ref f) (.ref x))
 | .ext φ => φ h /\ (∃ o, h.get? a = some o) /\ ∀ h1 h2 : Heap, φ h1 -> (∀ o, h1.get? a = some o -> h2.get? a = some o) -> φ h2
def HOk (H : Hp) (h : Heap) : Prop := ∀ a o, H a = some o -> cT P w H h a o
end
section
variable {P : Program} {w : World} {H H' : Hp} {h h' : Heap} {a : Addr} {o : HO}
theorem cT.lt (x : cT P w H h a o) : a < h.objs.size := by
 cases o with
 | lst xs => obtain ⟨_, _, _, _, e⟩ := x; exact Heap.lt_size e
 | tup xs => obtain ⟨_, _, _, p⟩ := x; exact p.lt
 | dK kvs => obtain ⟨_, _, _, _, o, _, _, e, _⟩ := x; exact Heap.lt_size e
 | dT kvs => obtain ⟨_, _, _, _, o, _, _, e, _⟩ := x; exact Heap.lt_size e
 | set S n => obtain ⟨o, _, _, _, e, _⟩ := x; exact Heap.lt_size e
 | ins C dx fs => obtain ⟨_, _, _, e, _⟩ := x; exact Heap.lt_size e
 | own y => obtain ⟨_, e⟩ := x; exact Heap.lt_size e
 | xd fs => obtain ⟨_, ⟨_, _, _, e, _⟩, _⟩ := x; exact Heap.lt_size e
 | rng lo hi => obtain ⟨_, _, _, e⟩ := x; exact Heap.lt_size e
 | frz ob u => obtain ⟨e, _⟩ := x; exact Heap.lt_size e
 | tbl ps => exact Heap.lt_size (show h.get? a = some _ from x)
 | met f y => exact Heap.lt_size (show h.get? a = some _ from x)
 | ext φ => obtain ⟨_, ⟨_, e⟩, _⟩ := x; exact Heap.lt_size e
theorem Paired.mapP {α β : Type} {F G : α -> β -> Prop} : ∀ {l₁ : List α} {l₂ : List β}, Paired F l₁ l₂ -> (∀ a b, F a b -> G a b) -> Paired G l₁ l₂
 | _, _, .nil, _ => .nil
 | _, _, .cons r t, f => .cons (f _ _ r) (Paired.mapP t f)
theorem cT.stay (x : cT P w H h a o) (k : ∀ b u, (b = a \/ H b = some (.own a)) -> h.get? b = some u -> h'.get? b = some u)
  (ho : ∀ b, H b = some (.own a) -> H' b = some (.own a)) (ht : ∀ b xs, H b = some (.tup xs) -> H' b = some (.tup xs)) : cT P w H' h' a o := by
 induction o with
 | lst xs => obtain ⟨z, its, n, r, e⟩ := x; exact ⟨z, its, n, r, k _ _ (.inl rfl) e⟩
 | tup xs => obtain ⟨z, its, r, ob, e, c⟩ := x; exact ⟨z, its, r, ob, k _ _ (.inl rfl) e, c⟩
 | dK kvs => obtain ⟨z, y, vs, r, ob, es, ep, e, c⟩ := x; exact ⟨z, y, vs, r, ob, es, ep, k _ _ (.inl rfl) e, c⟩
 | dT kvs =>
  obtain ⟨z, y, xs, r, ob, es, ep, e, c⟩ := x
  exact ⟨z, y, xs, Paired.mapP r fun p q z => ⟨z.1, ht _ _ z.2.1, z.2.2⟩, ob, es, ep, k _ _ (.inl rfl) e, c⟩
 | set S n => obtain ⟨ob, es, ep, t, e, c⟩ := x; exact ⟨ob, es, ep, t, k _ _ (.inl rfl) e, c⟩
 | ins C dx fs =>
  obtain ⟨d, z, ne, e, mA, ⟨od, es, ep, e2, c⟩, r⟩ := x
  exact ⟨ho _ d, z, ne, k _ _ (.inl rfl) e, mA, ⟨od, es, ep, k _ _ (.inr d) e2, c⟩, r⟩
 | own y => obtain ⟨ob, e⟩ := x; exact ⟨ob, k _ _ (.inl rfl) e⟩
 | xd fs => obtain ⟨mA, ⟨od, es, ep, e, c⟩, r⟩ := x; exact ⟨mA, ⟨od, es, ep, k _ _ (.inl rfl) e, c⟩, r⟩
 | rng lo hi => obtain ⟨t, u, v, e⟩ := x; exact ⟨t, u, v, k _ _ (.inl rfl) e⟩
 | frz ob u ih => obtain ⟨e, q⟩ := x; exact ⟨k _ _ (.inl rfl) e, ih q⟩
 | tbl ps =>
  have e : h.get? a = some { cls := .none, data := .fields ps } := x
  show h'.get? a = some { cls := .none, data := .fields ps }
  exact k a _ (.inl rfl) e
 | met f y =>
  have e : h.get? a = some (methodObj (.ref f) (.ref y)) := x
  show h'.get? a = some (methodObj (.ref f) (.ref y))
  exact k a _ (.inl rfl) e
 | ext φ => obtain ⟨p, ⟨o, e⟩, st⟩ := x; exact ⟨st _ _ p fun o q => k _ _ (.inl rfl) q, ⟨o, k _ _ (.inl rfl) e⟩, st⟩
theorem HOk.lt (x : HOk P w H h) (e : H a = some o) : a < h.objs.size := (x a o e).lt
theorem HOk.fresh (x : HOk P w H h) (e : h.objs.size <= a) : H a = none := by
 cases q : H a with
 | none => rfl
 | some u => exact absurd (lt_of_lt_of_le (x.lt q) e) (lt_irrefl _)
theorem HOk.kept (x : HOk P w H h) (k : ∀ b u, h.get? b = some u -> h'.get? b = some u) : HOk P w H h' := fun a o e =>
 (x a o e).stay (fun b u _ q => k b u q) (fun _ q => q) fun _ _ q => q
theorem HOk.laid (x : HOk P w H h) (k : ∀ b u, h.get? b = some u -> h'.get? b = some u) (hp : h.objs.size <= a) (new : cT P w (upd H a o) h' a o) : HOk P w (upd H a o) h' := fun b u e => by
 have hn := x.fresh hp
 by_cases hb : b = a
 ·subst hb; rw [ao] at e; cases e; exact new
 ·rw [aR hb] at e
  exact (x b u e).stay (fun c v _ q => k c v q) (fun c q => by rw [aR (aQ q hn)]; exact q) fun c xs q => by rw [aR (aQ q hn)]; exact q
end
def Rd (H : Hp) (a : Addr) (u : HO) : Prop := H a = some u \/ ∃ o, H a = some (.frz o u)
theorem Rd.ok {P : Program} {w : World} {H : Hp} {h : Heap} {a : Addr} {u : HO} (r : Rd H a u) (x : HOk P w H h) : cT P w H h a u := by
 rcases r with r | ⟨o, r⟩
 ·exact x a u r
 ·obtain ⟨_, q⟩ := x a _ r
  exact q
def Mut : Option HO -> Prop
 | some (.lst _) => True
 | some (.dK _) => True
 | some (.dT _) => True
 | some (.set _ _) => True
 | some (.ins _ _ _) => True
 | some (.ext _) => True
 | _ => False
section
variable {P : Program} {w : World} {H : Hp} {h h' : Heap} {x e : Addr} {o' : HO}
theorem HOk.write (ok : HOk P w H h) (mu : Mut (H x)) (he : e = x \/ H e = some (.own x)) (k : ∀ b u, b ≠ e -> h.get? b = some u -> h'.get? b = some u) (heo : ∃ u, h'.get? e = some u)
  (new : cT P w (upd H x o') h' x o') : HOk P w (upd H x o') h' := fun b u q => by
 have nown : ∀ c y, H c = some (.own y) -> c ≠ x := fun c y r z => by subst z; rw [r] at mu; exact mu
 have ntup : ∀ c xs, H c = some (.tup xs) -> c ≠ x := fun c xs r z => by subst z; rw [r] at mu; exact mu
 by_cases hb : b = x
 ·subst hb; rw [ao] at q; cases q; exact new
 ·rw [aR hb] at q
  by_cases hbe : b = e
  ·have q' : H b = some (.own x) := by
    rcases he with z | z
    ·exact absurd (hbe.trans z) hb
    ·rw [hbe]; exact z
   rw [q] at q'; cases q'
   obtain ⟨v, hv⟩ := heo
   exact ⟨v, by rw [hbe]; exact hv⟩
  ·refine (ok b u q).stay (fun c v hc r => k c v ?_ r) (fun c r => by rw [aR (nown c b r)]; exact r) fun c xs r => by rw [aR (ntup c xs r)]; exact r
   rcases hc with rfl | hc
   ·exact hbe
   ·rintro rfl
    rcases he with z | z
    ·exact nown c b hc z
    ·rw [hc] at z; cases z; exact hb rfl
end
structure Un (fs ex : List Addr) (H H' : Hp) (h h' : Heap) : Prop where
 keep : ∀ b o, h.get? b = some o -> H b = none -> b ∉ fs -> b ∉ ex -> h'.get? b = some o
 slot : ∀ b o, h.get? b = some o -> H b = none -> b ∈ fs -> b ∉ ex -> ∃ sl, h'.get? b = some { o with slots := sl }
 free : ∀ b o, h.get? b = some o -> H b = none -> b ∉ ex -> H' b = none
 there : ∀ b o, h.get? b = some o -> b ∉ ex -> ∃ o', h'.get? b = some o'
 tups : ∀ b xs, H b = some (.tup xs) -> H' b = some (.tup xs)
 frzs : ∀ b o u, H b = some (.frz o u) -> H' b = some (.frz o u)
 tbls : ∀ b ps, H b = some (.tbl ps) -> ∃ more, H' b = some (.tbl (ps ++ more))
section
variable {fs fs' ex ex' : List Addr} {H H1 H2 : Hp} {h h1 h2 h' : Heap} {a x e : Addr} {o : HO}
theorem Un.any (u : Un fs ex H H1 h h1) {b : Addr} {ob : Obj} (q : h.get? b = some ob) (n : H b = none) (hx : b ∉ ex) : ∃ sl, h1.get? b = some { ob with slots := sl } := by
 by_cases hb : b ∈ fs
 ·exact u.slot b ob q n hb hx
 ·exact ⟨ob.slots, u.keep b ob q n hb hx⟩
theorem Un.kept (k : ∀ b u, h.get? b = some u -> h'.get? b = some u) : Un fs ex H H h h' :=
 ⟨fun b ob q _ _ _ => k b ob q, fun b ob q _ _ _ => ⟨ob.slots, k b ob q⟩, fun _ _ _ n _ => n, fun b ob q _ => ⟨ob, k b ob q⟩, fun _ _ q => q, fun _ _ _ q => q, fun _ ps q => ⟨#[], by rw [q]; simp⟩⟩
theorem Un.refl : Un fs ex H H h h := Un.kept fun _ _ q => q
theorem Un.laid (k : ∀ b u, h.get? b = some u -> h'.get? b = some u) (hp : h.objs.size <= a) (hn : H a = none) : Un fs ex H (upd H a o) h h' where
 keep := fun b u q _ _ _ => k b u q
 slot := fun b u q _ _ _ => ⟨u.slots, k b u q⟩
 free := fun b u q n _ => by rw [aR (ne_of_lt (lt_of_lt_of_le (Heap.lt_size q) hp))]; exact n
 there := fun b u q _ => ⟨u, k b u q⟩
 tups := fun b xs q => by rw [aR (aQ q hn)]; exact q
 frzs := fun b u xs q => by rw [aR (aQ q hn)]; exact q
 tbls := fun b ps q => ⟨#[], by rw [aR (aQ q hn), q]; simp⟩
theorem Un.write (mu : Mut (H x)) (he : e = x \/ H e = some (.own x)) (k : ∀ b u, b ≠ e -> h.get? b = some u -> h'.get? b = some u) (heo : ∃ u, h'.get? e = some u) : Un fs ex H (upd H x o) h h' := by
 have hx : ∀ b, H b = none -> b ≠ x := fun b n z => by subst z; rw [n] at mu; exact mu
 have hb : ∀ b, H b = none -> b ≠ e := fun b n z => by
  subst z
  rcases he with r | r
  ·exact hx b n r
  ·rw [n] at r; cases r
 have hm : ∀ b u, H b = some u -> ¬ Mut (some u) -> b ≠ x := fun b u q nm z => by subst z; rw [q] at mu; exact nm mu
 refine ⟨fun b u q n _ _ => k b u (hb b n) q, fun b u q n _ _ => ⟨u.slots, k b u (hb b n) q⟩, fun b u q n _ => by rw [aR (hx b n)]; exact n, fun b u q _ => ?_,
  fun b xs q => by rw [aR (hm b _ q fun z => z)]; exact q, fun b u xs q => by rw [aR (hm b _ q fun z => z)]; exact q, fun b ps q => ⟨#[], by rw [aR (hm b _ q fun z => z), q]; simp⟩⟩
 by_cases hbe : b = e
 ·subst hbe; exact heo
 ·exact ⟨u, k b u hbe q⟩
end
def trk (h : Heap) (H : Hp) : List Addr := (List.range h.objs.size).filter fun a => (H a).isSome
def yR (h : Heap) (H : Hp) : Heap := PySem.W.hideAll h (trk h H)
theorem Fd (h : Heap) (H : Hp) : (yR h H).objs.size = h.objs.size := PySem.W.hideAll_size _ _
theorem Ht {h : Heap} {H : Hp} {b : Addr} {o : Obj} (e : h.get? b = some o) (n : H b = none) : (yR h H).get? b = some o :=
 PySem.W.hideAll_get _ e fun hm => by
  have q : (H b).isSome = true := (List.mem_filter.mp hm).2
  rw [n] at q; simp at q
theorem JQ {h : Heap} {H : Hp} {b : Addr} {o : Obj} (e : (yR h H).get? b = some o) : h.get? b = some o /\ H b = none := by
 have e' : h.get? b = some o := PySem.W.of_hideAll (trk h H) e
 refine ⟨e', ?_⟩
 cases q : H b with
 | none => rfl
 | some x =>
  have hm : b ∈ trk h H := List.mem_filter.mpr ⟨List.mem_range.mpr (Heap.lt_size e'), by simp [q]⟩
  have z : (yR h H).get? b = none := PySem.W.hideAll_none (trk h H) hm
  rw [z] at e; cases e
structure Mod (K : Frag) (mg : MG) (base : Heap) : Prop where
 kin : K.In base
 glob : base.Ns mainGlobals mg
 blt : ∃ mb, base.Ns builtinsNs mb /\ ∀ x : Str, x ≠ "__name__" -> mb x = bootBuiltins x
 nolimit : base.NoLimit
structure Cx where
 prog : Program
 w : World
 K : Frag
 mg : Str -> Option Value
 base : Heap
 A : Around
 N : List Str
 s₀ : Shared
 H₀ : Hp
 env : Env
 outer : List Env
 stack : List Env
 ex : List Addr
 fn : Str -> Bool
 calm : Bool
 pn : OP
 xe : Value -> Shared -> Prop
def frs (l : List Env) : List Addr := l.filterMap (·.frame)
abbrev Cx.fs (X : Cx) : List Addr := frs X.outer
def Vis (sc : Scope) (x : Str) : Prop := sc.names.lookup x = some .local \/ sc.names.lookup x = some .cell \/ sc.names.lookup x = some .free
def Loc (sc : Scope) (x : Str) : Prop := sc.names.lookup x = some .local \/ sc.names.lookup x = some .cell
def Look (env : Env) (h : Heap) (m : MG) (x : Str) (u : Value) : Prop :=
 (env.kindOf x = some .local /\ m x = some u) \/ ((env.kindOf x = some .cell \/ env.kindOf x = some .free) /\ ∃ c, env.cells.lookup x = some c /\ h.IsCell c (some u))
structure Cx.Ok (X : Cx) : Prop where
 mod : Mod X.K X.mg X.base
 kind : X.env.scope.kind = .function
 glob : X.env.globals = mainGlobals
 blt : X.env.builtins = builtinsNs
 above : X.s₀.heap.objs.size <= X.env.locals
 inj : ∀ x y c, X.env.cells.lookup x = some c -> X.env.cells.lookup y = some c -> x = y
 has : ∀ x, (X.env.kindOf x = some .cell \/ X.env.kindOf x = some .free) -> ∃ c, X.env.cells.lookup x = some c
 cab : ∀ x c, X.fn x = true -> X.env.cells.lookup x = some c -> X.s₀.heap.objs.size <= c
 hd : X.calm = true -> X.A.handled = none
 frames : X.A.frames = some X.stack
 stk : X.stack = X.outer \/ (X.stack = X.env :: X.outer /\ X.env.frame = some X.env.locals)
 exf : ∀ b ∈ X.ex, b ≠ X.env.locals /\ ∀ x c, X.env.cells.lookup x = some c -> c ≠ b
 bs : ∀ b o, X.base.get? b = some o -> X.s₀.heap.get? b = some o /\ X.H₀ b = none
 bsz : X.base.objs.size <= X.s₀.heap.objs.size
 noex : ∀ b o, X.base.get? b = some o -> b ∉ X.ex
 exfs : ∀ b ∈ X.ex, b ∉ X.fs
 funs : X.s₀.heap.FunFrames X.base X.outer
 frf : ∀ b ∈ X.fs, X.H₀ b = none
structure Inv (X : Cx) (pins : OP) (σ : List (Option V)) (H : Hp) (s : Shared) : Prop where
 ok : X.Ok
 os : s.os = X.s₀.os
 bare : AllBare s.gens
 base : Un X.fs X.ex X.H₀ H X.s₀.heap s.heap
 loc : ∃ m, s.heap.Ns X.env.locals m /\ ∀ (i : Nat) (x : Str) (v : V), X.N[i]? = some x -> σ[i]? = some (some v) -> Vis X.env.scope x -> ∃ u, RelV v u /\ Look X.env s.heap m x u
 cell : ∀ x c, X.env.cells.lookup x = some c -> ∃ v, s.heap.IsCell c v
 free : H X.env.locals = none
 freeC : ∀ x c, X.env.cells.lookup x = some c -> H c = none
 pin : ∀ p ∈ X.pn ++ pins, s.heap.get? p.1 = some p.2 /\ H p.1 = none /\ p.1 ≠ X.env.locals /\ p.1 ∉ X.fs /\ ∀ v, p.2.data ≠ .cell v
 hok : HOk X.prog X.w H s.heap
 len : σ.length = X.N.length
section
variable {X : Cx} {pins : OP} {σ : List (Option V)} {H H' : Hp} {s : Shared} {h' : Heap}
theorem Cx.Ok.nofr (ok : X.Ok) {b : Addr} {o : Obj} (e : X.base.get? b = some o) : b ∉ X.fs := fun hb => by
 have := (ok.funs.mem hb).1
 rw [e] at this; cases this
theorem Inv.bs (I : Inv X pins σ H s) : ∀ b o, X.base.get? b = some o -> s.heap.get? b = some o /\ H b = none := fun b o e =>
 ⟨I.base.keep b o (I.ok.bs b o e).1 (I.ok.bs b o e).2 (I.ok.nofr e) (I.ok.noex b o e), I.base.free b o (I.ok.bs b o e).1 (I.ok.bs b o e).2 (I.ok.noex b o e)⟩
theorem Inv.bk (I : Inv X pins σ H s) : ∀ b o, X.base.get? b = some o -> s.heap.get? b = some o := fun b o e => (I.bs b o e).1
theorem Inv.mod (I : Inv X pins σ H s) : Mod X.K X.mg X.base := I.ok.mod
theorem Inv.kIn (I : Inv X pins σ H s) : X.K.In s.heap := I.ok.mod.kin.keeps I.bk
theorem Inv.lt (I : Inv X pins σ H s) : X.env.locals < s.heap.objs.size := let ⟨_, hn, _⟩ := I.loc; hn.lt
theorem Inv.sz (I : Inv X pins σ H s) : X.s₀.heap.objs.size <= s.heap.objs.size := le_trans I.ok.above (le_of_lt I.lt)
theorem Inv.nofs (I : Inv X pins σ H s) {a : Addr} (h : s.heap.objs.size <= a) : a ∉ X.fs := fun hb => by
 obtain ⟨_, o, ho, _⟩ := I.ok.funs.mem hb
 exact absurd (lt_of_lt_of_le (Heap.lt_size ho) (le_trans I.sz h)) (lt_irrefl _)
theorem Inv.cne (I : Inv X pins σ H s) : ∀ x c, X.env.cells.lookup x = some c -> c ≠ X.env.locals := fun x c e z => by
 obtain ⟨v, o, ho, hd⟩ := I.cell x c e
 obtain ⟨m, ⟨o', es, ep, ho', hd', _⟩, _⟩ := I.loc
 rw [z, ho'] at ho; cases ho; rw [hd'] at hd; cases hd
theorem Inv.funs (I : Inv X pins σ H s) : s.heap.FunFrames X.base X.outer := by
 have all : ∀ (l : List Env), (∀ b ∈ frs l, b ∈ X.fs) -> X.s₀.heap.FunFrames X.base l -> s.heap.FunFrames X.base l := by
  intro l
  induction l with
  | nil => intro _ _; trivial
  | cons env r ih =>
   intro hs hl
   obtain ⟨hk, ⟨L, o, hf, hn, ho, hd⟩, hr⟩ := hl
   have hL : L ∈ X.fs := hs L (by unfold frs; rw [List.filterMap_cons, hf]; exact mem_cons_self)
   obtain ⟨sl, e⟩ := I.base.slot L o ho (I.ok.frf L hL) hL fun z => I.ok.exfs L z hL
   exact ⟨hk, ⟨L, _, hf, hn, e, hd⟩, ih (fun b hb => hs b (by unfold frs; rw [List.filterMap_cons, hf]; exact mem_cons_of_mem _ hb)) hr⟩
 exact all X.outer (fun _ hb => hb) I.ok.funs
theorem Inv.stack (I : Inv X pins σ H s) : s.heap.FunFrames X.base X.stack := by
 rcases I.ok.stk with e | ⟨e, hf⟩
 ·rw [e]; exact I.funs
 ·rw [e]
  obtain ⟨m, hn, _⟩ := I.loc
  refine .cons (by rw [I.ok.kind]; decide) hf hn ?_ I.funs
  exact Heap.get?_none_of_le (le_trans I.ok.bsz I.ok.above)
theorem Inv.stkSub (I : Inv X pins σ H s) : ∀ b ∈ frs X.stack, b ∈ X.env.locals :: X.fs := fun b hb => by
 rcases I.ok.stk with e | ⟨e, hf⟩
 ·rw [e] at hb; exact mem_cons_of_mem _ hb
 ·rw [e] at hb
  unfold frs at hb
  rw [List.filterMap_cons, hf] at hb
  exact hb
theorem Inv.stkFree (I : Inv X pins σ H s) : ∀ b ∈ frs X.stack, H b = none := fun b hb => by
 rcases mem_cons.mp (I.stkSub b hb) with e | hb
 ·rw [e]; exact I.free
 ·obtain ⟨_, o, ho, _⟩ := I.ok.funs.mem hb
  exact I.base.free b o ho (I.ok.frf b hb) fun z => I.ok.exfs b z hb
theorem Inv.step {g' : Array GenState} {t' : Nat} {d' : Drawn} {ch : List Addr} (I : Inv X pins σ H s)
  (hch : ∀ b ∈ ch, (b ∈ X.ex \/ X.s₀.heap.objs.size <= b) /\ b ≠ X.env.locals /\ (∀ x c, X.env.cells.lookup x = some c -> c ≠ b) /\ ∀ p ∈ X.pn ++ pins, p.1 ≠ b)
  (keep : ∀ b o, b ≠ X.env.locals -> b ∉ X.fs -> b ∉ ch -> s.heap.get? b = some o -> H b = none -> h'.get? b = some o)
  (slot : ∀ b o, b ≠ X.env.locals -> b ∈ X.fs -> b ∉ ch -> s.heap.get? b = some o -> H b = none -> ∃ sl, h'.get? b = some { o with slots := sl }) (free : ∀ b o, b ∉ ch -> s.heap.get? b = some o -> H b = none -> H' b = none)
  (there : ∀ b o, b ∉ ch -> s.heap.get? b = some o -> ∃ o', h'.get? b = some o')
  (tups : ∀ b xs, H b = some (.tup xs) -> H' b = some (.tup xs)) (frzs : ∀ b o u, H b = some (.frz o u) -> H' b = some (.frz o u)) (tbls : ∀ b ps, H b = some (.tbl ps) -> ∃ more, H' b = some (.tbl (ps ++ more)))
  (ns : ∀ m, s.heap.Ns X.env.locals m -> h'.Ns X.env.locals m) (hok : HOk X.prog X.w H' h') (hg : AllBare g') :
  Inv X pins σ H' { s with heap := h', gens := g', drawn := d', toks := t' } := by
 have neL : ∀ b o, X.s₀.heap.get? b = some o -> b ≠ X.env.locals := fun b o e => ne_of_lt (lt_of_lt_of_le (Heap.lt_size e) I.ok.above)
 have neC : ∀ b o, X.s₀.heap.get? b = some o -> b ∉ X.ex -> b ∉ ch := fun b o e hx hb => by
  rcases (hch b hb).1 with z | z
  ·exact hx z
  ·exact absurd (lt_of_lt_of_le (Heap.lt_size e) z) (lt_irrefl _)
 have cellK : ∀ x c, X.env.cells.lookup x = some c -> ∀ v, s.heap.IsCell c v -> h'.IsCell c v := fun x c e v ⟨o, ho, hd⟩ => by
  have nch : c ∉ ch := fun z => (hch c z).2.2.1 x c e rfl
  by_cases hc : c ∈ X.fs
  ·obtain ⟨sl, q⟩ := slot c o (I.cne x c e) hc nch ho (I.freeC x c e)
   exact ⟨_, q, hd⟩
  ·exact ⟨o, keep c o (I.cne x c e) hc nch ho (I.freeC x c e), hd⟩
 refine ⟨I.ok, I.os, hg, ⟨fun b o e n hb hx => ?_, fun b o e n hb hx => ?_, fun b o e n hx => ?_, fun b o e hx => ?_, fun b xs e => tups b xs (I.base.tups b xs e), fun b o xs e => frzs b o xs (I.base.frzs b o xs e), fun b ps e => ?_⟩, ?_, fun x c e => ?_, ?_, fun x c e => ?_, fun p hp => ?_, hok, I.len⟩
 ·exact keep b o (neL b o e) hb (neC b o e hx) (I.base.keep b o e n hb hx) (I.base.free b o e n hx)
 ·obtain ⟨sl, e1⟩ := I.base.slot b o e n hb hx
  obtain ⟨sl', e2⟩ := slot b _ (neL b o e) hb (neC b o e hx) e1 (I.base.free b o e n hx)
  exact ⟨sl', e2⟩
 ·obtain ⟨o', e1⟩ := I.base.there b o e hx
  exact free b o' (neC b o e hx) e1 (I.base.free b o e n hx)
 ·obtain ⟨o', e1⟩ := I.base.there b o e hx
  exact there b o' (neC b o e hx) e1
 ·obtain ⟨m1, e1⟩ := I.base.tbls b ps e
  obtain ⟨m2, e2⟩ := tbls b _ e1
  exact ⟨m1 ++ m2, by rw [e2, Array.append_assoc]⟩
 ·obtain ⟨m, hn, hl⟩ := I.loc
  refine ⟨m, ns m hn, fun i x v e1 e2 e3 => ?_⟩
  obtain ⟨u, r, l⟩ := hl i x v e1 e2 e3
  refine ⟨u, r, ?_⟩
  rcases l with l | ⟨k, c, e, z⟩
  ·exact .inl l
  ·exact .inr ⟨k, c, e, cellK x c e _ z⟩
 ·obtain ⟨v, z⟩ := I.cell x c e
  exact ⟨v, cellK x c e v z⟩
 ·obtain ⟨m, ⟨o, _, _, ho, _⟩, _⟩ := I.loc
  exact free _ o (fun z => (hch _ z).2.1 rfl) ho I.free
 ·obtain ⟨v, o, ho, hd⟩ := I.cell x c e
  exact free c o (fun z => (hch c z).2.2.1 x c e rfl) ho (I.freeC x c e)
 ·obtain ⟨e, n, ne, nf, d⟩ := I.pin p hp
  have nch : p.1 ∉ ch := fun z => (hch p.1 z).2.2.2 p hp rfl
  exact ⟨keep p.1 p.2 ne nf nch e n, free p.1 p.2 nch e n, ne, nf, d⟩
theorem Inv.un {t' : Nat} (I : Inv X pins σ H s) (u : Un X.fs [] H H' s.heap h') (hok : HOk X.prog X.w H' h') : Inv X pins σ H' { s with heap := h', toks := t' } := by
 obtain ⟨m, ⟨o, es, ep, ho, r⟩, _⟩ := id I.loc
 obtain ⟨sl, hL⟩ := u.any ho I.free Z2
 exact I.step (g' := s.gens) (d' := s.drawn) (ch := []) (fun _ z => nomatch z) (fun b o _ hb _ e n => u.keep b o e n hb Z2) (fun b o _ hb _ e n => u.slot b o e n hb Z2) (fun b o _ e n => u.free b o e n Z2) (fun b o _ e => u.there b o e Z2) u.tups u.frzs u.tbls (fun m' hm => by
  obtain ⟨o', es', ep', ho', r'⟩ := hm
  rw [ho] at ho'; cases ho'
  exact ⟨_, es', ep', hL, r'⟩) hok I.bare
theorem Inv.call {g' : Array GenState} {t' : Nat} {d' : Drawn} {ch : List Addr} (I : Inv X pins σ H s) (u : Un (frs X.stack) ch H H' s.heap h') (hok : HOk X.prog X.w H' h') (hg : AllBare g')
  (hch : ∀ b ∈ ch, (b ∈ X.ex \/ X.s₀.heap.objs.size <= b) /\ b ≠ X.env.locals /\ (∀ x c, X.env.cells.lookup x = some c -> c ≠ b) /\ ∀ p ∈ X.pn ++ pins, p.1 ≠ b) :
  Inv X pins σ H' { s with heap := h', gens := g', drawn := d', toks := t' } := by
 obtain ⟨m, ⟨o, es, ep, ho, r⟩, _⟩ := id I.loc
 obtain ⟨sl, hL⟩ := u.any ho I.free fun z => (hch _ z).2.1 rfl
 exact I.step (ch := ch) hch (fun b o hL hb hc e n => u.keep b o e n (fun z => (mem_cons.mp (I.stkSub b z)).elim hL hb) hc) (fun b o _ _ hc e n => u.any e n hc) (fun b o hc e n => u.free b o e n hc) (fun b o hc e => u.there b o e hc) u.tups u.frzs u.tbls (fun m' hm => by
  obtain ⟨o', es', ep', ho', r'⟩ := hm
  rw [ho] at ho'; cases ho'
  exact ⟨_, es', ep', hL, r'⟩) hok hg
theorem Inv.turned {t' : Nat} {it : Addr} (I : Inv X pins σ H s) (k : ∀ b o, b ≠ it -> s.heap.get? b = some o -> h'.get? b = some o) (hn : H it = none) (hL : it ≠ X.env.locals)
  (h1 : it ∈ X.ex \/ X.s₀.heap.objs.size <= it) (h2 : ∀ x c, X.env.cells.lookup x = some c -> c ≠ it) (h3 : ∀ p ∈ X.pn ++ pins, p.1 ≠ it) : Inv X pins σ H { s with heap := h', toks := t' } := by
 have nit : ∀ b u, H b = some u -> b ≠ it := fun b u e z => by rw [z, hn] at e; cases e
 refine I.step (g' := s.gens) (d' := s.drawn) (ch := [it]) (fun b hb => ?_) (fun b o _ _ hc e _ => k b o (fun z => hc (by simp [z])) e) (fun b o _ _ hc e _ => ⟨o.slots, k b o (fun z => hc (by simp [z])) e⟩) (fun _ _ _ _ n => n)
  (fun b o hc e => ⟨o, k b o (fun z => hc (by simp [z])) e⟩) (fun _ _ e => e) (fun _ _ _ e => e) (fun b ps e => ⟨#[], by rw [e]; simp⟩) (fun m hm => ?_) (fun b u e => ?_) I.bare
 ·have e : b = it := by simpa using hb
  subst e
  exact ⟨h1, hL, h2, h3⟩
 ·obtain ⟨o, es, ep, ho, r⟩ := hm
  exact ⟨o, es, ep, k _ o (Ne.symm hL) ho, r⟩
 ·refine (I.hok b u e).stay (fun c v hc q => k c v ?_ q) (fun _ q => q) fun _ _ q => q
  rcases hc with z | z
  ·rw [z]; exact nit b u e
  ·exact nit c _ z
theorem Inv.tok (I : Inv X pins σ H s) (t : Nat) : Inv X pins σ H { s with toks := t } := I.un (h' := s.heap) (t' := t) Un.refl I.hok
theorem Inv.kept {t' : Nat} (I : Inv X pins σ H s) (k : ∀ b u, s.heap.get? b = some u -> h'.get? b = some u) : Inv X pins σ H { s with heap := h', toks := t' } := I.un (Un.kept k) (I.hok.kept k)
theorem Inv.laid {a : Addr} {o : HO} {t' : Nat} (I : Inv X pins σ H s) (k : ∀ b u, s.heap.get? b = some u -> h'.get? b = some u) (hp : s.heap.objs.size <= a) (new : cT X.prog X.w (upd H a o) h' a o) :
  Inv X pins σ (upd H a o) { s with heap := h', toks := t' } := I.un (Un.laid k hp (I.hok.fresh hp)) (I.hok.laid k hp new)
theorem Inv.write {x e : Addr} {o : HO} {t' : Nat} (I : Inv X pins σ H s) (mu : Mut (H x)) (he : e = x \/ H e = some (.own x)) (k : ∀ b u, b ≠ e -> s.heap.get? b = some u -> h'.get? b = some u) (heo : ∃ u, h'.get? e = some u)
  (new : cT X.prog X.w (upd H x o) h' x o) : Inv X pins σ (upd H x o) { s with heap := h', toks := t' } := I.un (Un.write mu he k heo) (I.hok.write mu he k heo new)
theorem Inv.pins_of {pins' : OP} (I : Inv X pins σ H s) (h : ∀ p ∈ pins', s.heap.get? p.1 = some p.2 /\ H p.1 = none /\ p.1 ≠ X.env.locals /\ p.1 ∉ X.fs /\ ∀ v, p.2.data ≠ .cell v) : Inv X pins' σ H s :=
 ⟨I.ok, I.os, I.bare, I.base, I.loc, I.cell, I.free, I.freeC, fun p hp => (mem_append.mp hp).elim (fun z => I.pin p (mem_append_left _ z)) (h p), I.hok, I.len⟩
theorem uJ {N : List Str} (hN : N.Nodup) {i j : Nat} {x : Str} (a : N[i]? = some x) (b : N[j]? = some x) : i = j := by
 obtain ⟨h1, e1⟩ := List.getElem?_eq_some_iff.mp a
 obtain ⟨h2, e2⟩ := List.getElem?_eq_some_iff.mp b
 exact (List.getElem_inj hN).mp (e1.trans e2.symm)
theorem wD {M : Model} {A : Around} {E : EV} {i : Nat} {x : Str} {v : V} {u : Value} {Q : Unit -> Shared -> Prop} (I : Inv X pins σ H s) (hN : X.N.Nodup) (hi : X.N[i]? = some x) (hx : Loc X.env.scope x) (r : RelV v u)
  (h : ∀ s', Inv X pins (σ.set i (some v)) H s' -> (∃ a, Heap.SameBut a s.heap s'.heap /\ (a = X.env.locals \/ X.env.cells.lookup x = some a)) -> Q () s') (hf : X.fn x = true \/ X.env.scope.names.lookup x = some .local := by first | exact .inl rfl | exact .inr rfl | assumption) : wpAny M A (storeName X.env x u) Q E s := by
 obtain ⟨m, hn, hl⟩ := id I.loc
 have hcls : (X.env.scope.kind == .class || (X.env.scope.kind == .module && X.env.locals != X.env.globals)) = false := by rw [I.ok.kind]; rfl
 have hiσ : i < σ.length := by rw [I.len]; exact (List.getElem?_eq_some_iff.mp hi).1
 have cne := I.cne
 have tracked : ∀ {a : Addr} {h' : Heap}, (∃ o, s.heap.get? a = some o /\ H a = none) -> Heap.SameBut a s.heap h' -> HOk X.prog X.w H h' := fun {a h'} ha hs b ob e => by
  obtain ⟨_, _, hfree⟩ := ha
  refine (I.hok b ob e).stay (fun c w' hc q => (hs.2 c ?_).trans q) (fun _ q => q) fun _ _ q => q
  rintro rfl
  rcases hc with rfl | hc
  ·rw [hfree] at e; cases e
  ·rw [hfree] at hc; cases hc
 rcases hx with hk | hk
 ·refine wpAny_storeName_local hk hn (fun h' hn' hs => ?_) hcls
  obtain ⟨oL, _, _, hoL, _⟩ := id hn
  refine h _ ⟨I.ok, I.os, I.bare, ⟨fun b o e n hb hx => ?_, fun b o e n hb hx => ?_, I.base.free, fun b o e hx => ?_, I.base.tups, I.base.frzs, I.base.tbls⟩, ⟨_, hn', fun j y v' e1 e2 e3 => ?_⟩, fun y c e => ?_, I.free, I.freeC, fun p hp => ?_, tracked ⟨oL, hoL, I.free⟩ hs, by simpa using I.len⟩ ⟨_, hs, .inl rfl⟩
  ·exact (hs.2 b (ne_of_lt (lt_of_lt_of_le (Heap.lt_size e) I.ok.above))).trans (I.base.keep b o e n hb hx)
  ·obtain ⟨sl, e1⟩ := I.base.slot b o e n hb hx
   exact ⟨sl, (hs.2 b (ne_of_lt (lt_of_lt_of_le (Heap.lt_size e) I.ok.above))).trans e1⟩
  ·obtain ⟨o', e1⟩ := I.base.there b o e hx
   exact ⟨o', (hs.2 b (ne_of_lt (lt_of_lt_of_le (Heap.lt_size e) I.ok.above))).trans e1⟩
  ·by_cases hj : j = i
   ·subst hj
    rw [hi] at e1; cases e1
    rw [List.getElem?_set_self hiσ] at e2
    cases e2
    exact ⟨u, r, .inl ⟨hk, Z2⟩⟩
   ·rw [List.getElem?_set_ne (Ne.symm hj)] at e2
    obtain ⟨u', r', q⟩ := hl j y v' e1 e2 e3
    refine ⟨u', r', ?_⟩
    rcases q with ⟨k, e⟩ | ⟨k, c, e, z⟩
    ·refine .inl ⟨k, ?_⟩
     have : y ≠ x := fun e => hj (uJ hN e1 (e ▸ hi))
     simp [this, e]
    ·exact .inr ⟨k, c, e, z.sameBut hs (cne y c e)⟩
  ·obtain ⟨w', z⟩ := I.cell y c e
   exact ⟨w', z.sameBut hs (cne y c e)⟩
  ·obtain ⟨e, n, ne, nf, d⟩ := I.pin p hp
   exact ⟨(hs.2 p.1 ne).trans e, n, ne, nf, d⟩
 ·have hfn : X.fn x = true := by
   rcases hf with z | z
   ·exact z
   ·rw [z] at hk; cases hk
  obtain ⟨c, hc⟩ := I.ok.has x (.inl hk)
  obtain ⟨w', z⟩ := I.cell x c hc
  refine wpAny_storeName_cell I.ok.kind hk hc z (fun h' hc' hs => ?_)
  obtain ⟨oc, hoc, hocd⟩ := id z
  refine h { s with heap := h' } ⟨I.ok, I.os, I.bare, ⟨fun b o e n hb hx => ?_, fun b o e n hb hx => ?_, I.base.free, fun b o e hx => ?_, I.base.tups, I.base.frzs, I.base.tbls⟩, ⟨m, hn.sameBut hs (Ne.symm (cne x c hc)), fun j y v' e1 e2 e3 => ?_⟩, fun y c' e => ?_, I.free, I.freeC, fun p hp => ?_, tracked ⟨oc, hoc, I.freeC x c hc⟩ hs, by simpa using I.len⟩ ⟨c, hs, .inr hc⟩
  ·exact (hs.2 b (ne_of_lt (lt_of_lt_of_le (Heap.lt_size e) (I.ok.cab x c hfn hc)))).trans (I.base.keep b o e n hb hx)
  ·obtain ⟨sl, e1⟩ := I.base.slot b o e n hb hx
   exact ⟨sl, (hs.2 b (ne_of_lt (lt_of_lt_of_le (Heap.lt_size e) (I.ok.cab x c hfn hc)))).trans e1⟩
  ·obtain ⟨o', e1⟩ := I.base.there b o e hx
   exact ⟨o', (hs.2 b (ne_of_lt (lt_of_lt_of_le (Heap.lt_size e) (I.ok.cab x c hfn hc)))).trans e1⟩
  ·by_cases hj : j = i
   ·subst hj
    rw [hi] at e1; cases e1
    rw [List.getElem?_set_self hiσ] at e2
    cases e2
    exact ⟨u, r, .inr ⟨.inl hk, c, hc, hc'⟩⟩
   ·rw [List.getElem?_set_ne (Ne.symm hj)] at e2
    obtain ⟨u', r', q⟩ := hl j y v' e1 e2 e3
    refine ⟨u', r', ?_⟩
    rcases q with q | ⟨k, c', e, z'⟩
    ·exact .inl q
    ·refine .inr ⟨k, c', e, z'.sameBut hs ?_⟩
     rintro rfl
     exact hj (uJ hN e1 (I.ok.inj _ _ _ e hc ▸ hi))
  ·by_cases hcc : c' = c
   ·subst hcc; exact ⟨_, hc'⟩
   ·obtain ⟨w2, z2⟩ := I.cell y c' e
    exact ⟨w2, z2.sameBut hs hcc⟩
  ·obtain ⟨e, n, ne, nf, d⟩ := I.pin p hp
   refine ⟨(hs.2 p.1 ?_).trans e, n, ne, nf, d⟩
   intro q
   rw [q, hoc] at e
   have q' : oc = p.2 := Option.some.inj e
   exact d w' (by rw [<- q']; exact hocd)
theorem pI {M : Model} {A : Around} {E : EV} {i : Nat} {x : Str} {v : V} {u : Value} {Q : Unit -> Shared -> Prop} (I : Inv X pins σ H s) (hN : X.N.Nodup) (hi : X.N[i]? = some x) (hx : Loc X.env.scope x) (r : RelV v u)
  (h : ∀ s', Inv X pins (σ.set i (some v)) H s' -> Q () s') (hf : X.fn x = true \/ X.env.scope.names.lookup x = some .local := by first | exact .inl rfl | exact .inr rfl | assumption) : wpAny M A (storeName X.env x u) Q E s :=
 wD I hN hi hx r (fun s' I' _ => h s' I') hf
theorem Inv.call' {s' : Shared} {ch : List Addr} (I : Inv X pins σ H s) (ho : s'.os = s.os) (u : Un (frs X.stack) ch H H' s.heap s'.heap) (hok : HOk X.prog X.w H' s'.heap) (hg : AllBare s'.gens)
  (hch : ∀ b ∈ ch, (b ∈ X.ex \/ X.s₀.heap.objs.size <= b) /\ b ≠ X.env.locals /\ (∀ x c, X.env.cells.lookup x = some c -> c ≠ b) /\ ∀ p ∈ X.pn ++ pins, p.1 ≠ b) : Inv X pins σ H' s' := by
 obtain ⟨h', g', d', t', o'⟩ := s'
 have e : o' = s.os := ho
 subst e
 exact I.call (g' := g') (t' := t') (d' := d') u hok hg hch
end
abbrev XK := Value -> Option Addr -> Hp -> Prop
abbrev St := List (Option V)
abbrev VK := V -> Hp -> Prop
abbrev TE := St -> Hp -> VK -> Prop
abbrev TT := St -> Hp -> (Bool -> Hp -> Prop) -> Prop
abbrev TA := St -> Hp -> (List V -> Hp -> Prop) -> Prop
structure Ends where
 nx : St -> Hp -> Prop
 rt : VK
 bk : St -> Hp -> Prop := fun _ _ => False
 ct : St -> Hp -> Prop := fun _ _ => False
abbrev TS := Ends -> St -> Hp -> Prop
def EP (X : Cx) (pins : OP) (σ : St) (Q : VK) (u : Value) (s' : Shared) : Prop := ∃ v H', Inv X pins σ H' s' /\ RelV v u /\ Q v H'
def TP (X : Cx) (pins : OP) (σ : St) (Q : Bool -> Hp -> Prop) (b : Bool) (s' : Shared) : Prop := ∃ H', Inv X pins σ H' s' /\ Q b H'
def AP (X : Cx) (pins : OP) (σ : St) (Q : List V -> Hp -> Prop) (us : List Value) (s' : Shared) : Prop := ∃ vs H', Inv X pins σ H' s' /\ Vals vs us /\ Q vs H'
def SP (X : Cx) (pins : OP) (D : Ends) (f : Flow) (s' : Shared) : Prop :=
 match f with
 | .next => ∃ σ' H', Inv X pins σ' H' s' /\ D.nx σ' H'
 | .brk => ∃ σ' H', Inv X pins σ' H' s' /\ D.bk σ' H'
 | .cont => ∃ σ' H', Inv X pins σ' H' s' /\ D.ct σ' H'
 | .ret u => ∃ v σ' H', Inv X pins σ' H' s' /\ RelV v u /\ D.rt v H'
def PE (X : Cx) (e : Expr) (t : TE) : Prop :=
 ∀ (pins : OP) (s : Shared) (σ : St) (H : Hp) (Q : VK), Inv X pins σ H s -> t σ H Q -> wpAny (model X.prog X.w) X.A (eval e X.env) (EP X pins σ Q) X.xe s
def PT (X : Cx) (e : Expr) (t : TT) : Prop :=
 ∀ (pins : OP) (s : Shared) (σ : St) (H : Hp) (Q : Bool -> Hp -> Prop), Inv X pins σ H s -> t σ H Q -> wpAny (model X.prog X.w) X.A (isTrue e X.env (eval e X.env)) (TP X pins σ Q) X.xe s
def PW (X : Cx) (e : Expr) (t : TT) : Prop :=
 ∀ (whole : Sem Value) (pins : OP) (s : Shared) (σ : St) (H : Hp) (Q : Bool -> Hp -> Prop), Inv X pins σ H s -> t σ H Q -> wpAny (model X.prog X.w) X.A (isTrue e X.env whole) (TP X pins σ Q) X.xe s
theorem PW.pt {X : Cx} {e : Expr} {t : TT} (h : PW X e t) : PT X e t := h _
def PA (X : Cx) (es : List Expr) (t : TA) : Prop :=
 ∀ (pos : Pos) (pins : OP) (s : Shared) (σ : St) (H : Hp) (Q : List V -> Hp -> Prop), Inv X pins σ H s -> t σ H Q -> wpAny (model X.prog X.w) X.A (spliced (backTo pos (starEach es X.env))) (AP X pins σ Q) X.xe s
def PS (X : Cx) (st : Stmt) (t : TS) : Prop :=
 ∀ (pins : OP) (s : Shared) (σ : St) (H : Hp) (D : Ends), Inv X pins σ H s -> t D σ H -> wpAny (model X.prog X.w) X.A (exec st X.env) (SP X pins D) X.xe s
def PSs (X : Cx) (st : List Stmt) (t : TS) : Prop :=
 ∀ (pins : OP) (s : Shared) (σ : St) (H : Hp) (D : Ends), Inv X pins σ H s -> t D σ H -> wpAny (model X.prog X.w) X.A (execs st X.env) (SP X pins D) X.xe s
theorem thn {α : Type} {t : Sem α} {Q Q' : α -> Shared -> Prop} {M : Model} {A : Around} {E : EV} {s : Shared} (h : wpAny M A t Q E s) (hQ : ∀ a s, Q a s -> Q' a s) : wpAny M A t Q' E s := wpAny_mono h hQ fun _ _ x => x
section
variable {X : Cx}
def vm (i : Nat) : TE := fun σ H Q => ∃ v, σ[i]? = some (some v) /\ Q v H
def tC (v : V) : TE := fun _ H Q => Q v H
theorem KQ {i : Nat} {x : Str} {pos : Pos} (hN : X.N[i]? = some x) (hv : Vis X.env.scope x) (hd : (x == ("__debug__" : Str)) = false := by decide) (hcd : (x == ("__classdict__" : Str)) = false := by decide) : PE X (.Name x pos) (vm i) := by
 intro pins s σ H Q I h
 obtain ⟨v, e, h⟩ := h
 obtain ⟨m, hn, hl⟩ := I.loc
 obtain ⟨u, r, l⟩ := hl i x v hN e hv
 have fin : EP X pins σ Q u s := ⟨v, H, I, r, h⟩
 rcases l with ⟨hk, hm⟩ | ⟨hk, c, hc, hcell⟩
 ·exact wpAny_Name (wpAny_loadName_local I.ok.kind hk hn hm fin) hd
 ·rcases hk with hk | hk
  ·exact wpAny_Name (wpAny_loadName_cell I.ok.kind hk hc hcell fin) hd
  ·exact wpAny_Name (wpAny_loadName_free I.ok.kind hk hc hcell fin hcd) hd
theorem aq {i j pos} : PE X (.Constant (.int i) j pos) (tC (.int i)) := fun _ _ _ H _ I h => wpAny_Constant_int ⟨.int i, H, I.tok _, ⟨_, rfl⟩, h⟩
theorem fK {b j pos} : PE X (.Constant (.bool b) j pos) (tC (.bl b)) := fun _ _ _ H _ I h => Constant_bool ⟨.bl b, H, I, rfl, h⟩
theorem dM {j pos} : PE X (.Constant .none j pos) (tC .non) := fun _ _ _ H _ I h => Constant_none ⟨.non, H, I, rfl, h⟩
theorem aA {x j pos} : PE X (.Constant (.str x) j pos) (tC (.str x)) := fun _ _ _ H _ I h => Calls.Constant_str ⟨.str x, H, I.tok _, ⟨_, rfl⟩, h⟩
def Gl (X : Cx) (x : Str) : Prop := X.env.kindOf x = some .globalImplicit
theorem fj {E : EV} {pins : OP} {s : Shared} {σ : St} {H : Hp} {x : Str} {u : Value} {pos : Pos} {Q : EV} (I : Inv X pins σ H s) (hg : Gl X x) (hm : X.mg x = some u) (h : Q u s)
  (hd : (x == ("__debug__" : Str)) = false := by decide) : wpAny (model X.prog X.w) X.A (eval (.Name x pos) X.env) Q E s :=
 Calls.Name_function_global I.ok.kind hg (Calls.loadGlobal_global (by rw [I.ok.glob]; exact I.mod.glob.keeps I.bk) hm h) hd
theorem qX {E : EV} {pins : OP} {s : Shared} {σ : St} {H : Hp} {x : Str} {u : Value} {pos : Pos} {Q : EV} (I : Inv X pins σ H s) (hg : Gl X x) (hm : X.mg x = none) (hv : bootBuiltins x = some u) (h : Q u s)
  (hn : x ≠ "__name__" := by decide) (hd : (x == ("__debug__" : Str)) = false := by decide) : wpAny (model X.prog X.w) X.A (eval (.Name x pos) X.env) Q E s := by
 obtain ⟨mb, h1, h2⟩ := I.mod.blt
 exact Calls.Name_function_global I.ok.kind hg (Calls.loadGlobal_builtin (by rw [I.ok.glob]; exact I.mod.glob.keeps I.bk) hm (by rw [I.ok.blt]; exact h1.keeps I.bk) ((h2 x hn).trans hv) h) hd
theorem tQ {x : Str} {v : V} {u : Value} {pos : Pos} (hg : Gl X x) (hm : X.mg x = some u) (r : RelV v u) (hd : (x == ("__debug__" : Str)) = false := by decide) : PE X (.Name x pos) (tC v) :=
 fun _ _ _ H _ I h => fj I hg hm ⟨v, H, I, r, h⟩ hd
theorem cz {x : Str} {v : V} {u : Value} {pos : Pos} (hg : Gl X x) (hm : X.mg x = none) (hv : bootBuiltins x = some u) (r : RelV v u) (hn : x ≠ "__name__" := by decide) (hd : (x == ("__debug__" : Str)) = false := by decide) : PE X (.Name x pos) (tC v) :=
 fun _ _ _ H _ I h => qX I hg hm hv ⟨v, H, I, r, h⟩ hn hd
variable {a b : Expr} {ta tb : TE} {pos : Pos}
def tB (t : TE) : TT := fun σ H Q => t σ H fun x H1 => ∃ c, x = .bl c /\ Q c H1
theorem bF {e : Expr} {t : TE} (h : PE X e t) (he : ∀ whole, isTrue e X.env whole = (do let v <- whole; standAt e.pos; holding [v] (truthy v)) := by intro _; rfl) : PT X e (tB t) := by
 intro pins s σ H Q I hw
 refine isTrue_plain (thn (h pins s σ H _ I hw) fun v s1 ⟨x, H1, I1, r1, q1⟩ => ?_) (he _)
 obtain ⟨d, rfl, q⟩ := q1
 cases r1
 exact wpAny_truthy_bool ⟨H1, I1, q⟩
variable {tA tB' : TT} {rest : List Expr}
def Xw (t u : TT) : TT := fun σ H Q => t σ H fun c H1 => if c = true then u σ H1 Q else Q false H1
def tOr (t u : TT) : TT := fun σ H Q => t σ H fun c H1 => if c = true then Q true H1 else u σ H1 Q
def X3 (t : TT) : TT := fun σ H Q => t σ H fun c H1 => Q (!c) H1
theorem bZ (ha : PT X a tA) : PW X (.BoolOp .And [a] pos) tA := by
 intro wh pins s σ H Q I h
 refine isTrue_and (thn (ha pins s σ H Q I h) fun c s1 e => ?_)
 cases c with
 | true => exact isTrue_and_nil e
 | false => exact e
theorem eN (ha : PT X a tA) : PW X (.BoolOp .Or [a] pos) tA := by
 intro wh pins s σ H Q I h
 refine isTrue_or (thn (ha pins s σ H Q I h) fun c s1 e => ?_)
 cases c with
 | false => exact isTrue_or_nil e
 | true => exact e
theorem b8 (ha : PT X a tA) (hb : PW X (.BoolOp .And (b :: rest) pos) tB') : PW X (.BoolOp .And (a :: b :: rest) pos) (Xw tA tB') := by
 intro wh pins s σ H Q I h
 refine isTrue_and (thn (ha pins s σ H _ I h) fun c s1 ⟨H1, I1, q1⟩ => ?_)
 cases c with
 | true => exact hb wh pins s1 σ H1 Q I1 q1
 | false => exact ⟨H1, I1, q1⟩
theorem dw (ha : PT X a tA) (hb : PW X (.BoolOp .Or (b :: rest) pos) tB') : PW X (.BoolOp .Or (a :: b :: rest) pos) (tOr tA tB') := by
 intro wh pins s σ H Q I h
 refine isTrue_or (thn (ha pins s σ H _ I h) fun c s1 ⟨H1, I1, q1⟩ => ?_)
 cases c with
 | true => exact ⟨H1, I1, q1⟩
 | false => exact hb wh pins s1 σ H1 Q I1 q1
theorem cH (ha : PT X a tA) : PT X (.UnaryOp .Not a pos) (X3 tA) := by
 intro pins s σ H Q I h
 exact isTrue_not (ha pins s σ H (fun c H1 => Q (!c) H1) I h)
def Nf (ta tb : TE) : TE := fun σ H Q => ta σ H fun x H1 => ∃ c, x = .bl c /\ if c = true then tb σ H1 Q else Q (.bl false) H1
def Qo (ta : TE) : TE := fun σ H Q => ta σ H fun x H1 => ∃ c, x = .bl c /\ Q (.bl (!c)) H1
theorem eH {op} {t : TE} (h : PE X a t) : PE X (.BoolOp op [a] pos) t := fun pins s σ H Q I hw => BoolOp_one (h pins s σ H Q I hw)
theorem cI (ha : PE X a ta) (hb : PE X (.BoolOp .And (b :: rest) pos) tb) : PE X (.BoolOp .And (a :: b :: rest) pos) (Nf ta tb) := by
 intro pins s σ H Q I h
 refine BoolOp_and (thn (ha pins s σ H _ I h) fun v s1 ⟨x, H1, I1, r1, q1⟩ => ?_)
 obtain ⟨c, rfl, q1⟩ := q1
 cases r1
 refine wpAny_truthy_bool ?_
 cases c with
 | true => exact hb pins s1 σ H1 Q I1 q1
 | false => exact ⟨.bl false, H1, I1, rfl, q1⟩
theorem Bl (ha : PE X a ta) : PE X (.UnaryOp .Not a pos) (Qo ta) := by
 intro pins s σ H Q I h
 refine UnaryOp_ (thn (ha pins s σ H _ I h) fun v s1 ⟨x, H1, I1, r1, q1⟩ => ?_)
 obtain ⟨c, rfl, q1⟩ := q1
 cases r1
 exact not_of (wpAny_truthy_bool ⟨.bl (!c), H1, I1, rfl, q1⟩)
def tIf (t : TT) (ta tb : TE) : TE := fun σ H Q => t σ H fun c H1 => if c = true then ta σ H1 Q else tb σ H1 Q
theorem Hb {c : Expr} (hc : PT X c tA) (ha : PE X a ta) (hb : PE X b tb) : PE X (.IfExp c a b pos) (tIf tA ta tb) := by
 intro pins s σ H Q I h
 refine wpAny_IfExp (thn (hc pins s σ H _ I h) fun d s1 ⟨H1, I1, q1⟩ => ?_)
 cases d with
 | true => exact ha pins s1 σ H1 Q I1 q1
 | false => exact hb pins s1 σ H1 Q I1 q1
end
def SqL (K : Frag) (H : Hp) (a : Addr) (xs : List V) : Prop :=
 Rd H a (.lst xs) \/
  ∃ (o : Obj) (its : Array Value) (n : Nat), K.lookup a = some o /\ o.cls = .type "list" /\ o.dict = none /\ o.data = .seq its n /\ its.size <= sizeLine /\ Vals xs its.toList
def SqT (K : Frag) (H : Hp) (a : Addr) (xs : List V) : Prop :=
 Rd H a (.tup xs) \/
  ∃ (o : Obj) (its : Array Value) (n : Nat), K.lookup a = some o /\ o.cls = .type "tuple" /\ o.data = .seq its n /\ its.size <= sizeLine /\ Vals xs its.toList
def YM : Value -> Option V
 | .none => some .non
 | .bool b => some (.bl b)
 | .int i _ => some (.int i)
 | .str x _ => some (.str x)
 | .bytes b _ => some (.byt b)
 | .float b _ => some (.flt b)
 | .ref a => some (.ref a)
 | .type n => some (.ty n)
 | _ => none
theorem RelV.abs {x : V} {u : Value} (r : RelV x u) : YM u = some x := by
 cases x with
 | non => cases r; rfl
 | bl _ => cases r; rfl
 | int _ => obtain ⟨t, rfl⟩ := r; rfl
 | str _ => obtain ⟨t, rfl⟩ := r; rfl
 | byt _ => obtain ⟨t, rfl⟩ := r; rfl
 | flt _ => obtain ⟨t, rfl⟩ := r; rfl
 | ref _ => cases r; rfl
 | ty _ => cases r; rfl
theorem RelV.inj {x y : V} {u : Value} (r : RelV x u) (q : RelV y u) : x = y := Option.some.inj (r.abs.symm.trans q.abs)
theorem Vals.inj : ∀ {xs ys : List V} {us : List Value}, Vals xs us -> Vals ys us -> xs = ys
 | _, _, _, .nil, .nil => rfl
 | _, _, _, .cons r t, .cons r' t' => by rw [r.inj r', Vals.inj t t']
section
variable {X : Cx} {pins : OP} {σ : St} {H : Hp} {s : Shared} {a : Addr} {xs ys : List V}
theorem SqL.of {K : Frag} (h : H a = some (.lst xs)) : SqL K H a xs := .inl (.inl h)
theorem SqT.of {K : Frag} (h : H a = some (.tup xs)) : SqT K H a xs := .inl (.inl h)
theorem Inv.list (I : Inv X pins σ H s) (h : SqL X.K H a xs) : ∃ its : List Value, Vals xs its /\ PlainL s.heap a its.toArray /\ xs.length <= sizeLine := by
 rcases h with h | ⟨o, its, n, hk, hc, hd, hs, hz, r⟩
 ·obtain ⟨z, its, n, r, e⟩ := h.ok I.hok
  exact ⟨its, r, ⟨_, n, e, rfl, rfl, rfl⟩, z⟩
 ·refine ⟨its.toList, r, ⟨o, n, I.kIn a o hk, hc, hd, by simpa using hs⟩, ?_⟩
  have e := r.length
  simp only [Array.length_toList] at e
  omega
theorem Inv.tuple (I : Inv X pins σ H s) (h : SqT X.K H a xs) : ∃ its : List Value, Vals xs its /\ IsTup s.heap a its.toArray /\ xs.length <= sizeLine := by
 rcases h with h | ⟨o, its, n, hk, hc, hs, hz, r⟩
 ·obtain ⟨z, its, r, p⟩ := h.ok I.hok
  exact ⟨its, r, p, z⟩
 ·refine ⟨its.toList, r, ⟨o, I.kIn a o hk, hc, n, by simpa using hs⟩, ?_⟩
  have e := r.length
  simp only [Array.length_toList] at e
  omega
theorem Inv.list_inj (I : Inv X pins σ H s) (h : SqL X.K H a xs) (h' : SqL X.K H a ys) : xs = ys := by
 obtain ⟨its, r, ⟨o, n, e, _, _, d⟩, _⟩ := I.list h
 obtain ⟨its', r', ⟨o', n', e', _, _, d'⟩, _⟩ := I.list h'
 rw [e] at e'; cases e'
 rw [d] at d'
 injection d' with d1 _
 have : its = its' := by simpa using congrArg Array.toList d1
 subst this
 exact r.inj r'
theorem Inv.tuple_inj (I : Inv X pins σ H s) (h : SqT X.K H a xs) (h' : SqT X.K H a ys) : xs = ys := by
 obtain ⟨its, r, ⟨o, e, _, n, d⟩, _⟩ := I.tuple h
 obtain ⟨its', r', ⟨o', e', _, n', d'⟩, _⟩ := I.tuple h'
 rw [e] at e'; cases e'
 rw [d] at d'
 injection d' with d1 _
 have : its = its' := by simpa using congrArg Array.toList d1
 subst this
 exact r.inj r'
end
abbrev Cx.wish (X : Cx) (E : EV) : Cx := { X with xe := E }
abbrev Cx.nox (X : Cx) : Cx := X.wish fun _ _ => False
theorem Cx.Ok.wish {X : Cx} (ok : X.Ok) (E : EV) : (X.wish E).Ok :=
 ⟨ok.mod, ok.kind, ok.glob, ok.blt, ok.above, ok.inj, ok.has, ok.cab, ok.hd, ok.frames, ok.stk, ok.exf, ok.bs, ok.bsz, ok.noex, ok.exfs, ok.funs, ok.frf⟩
theorem Cx.Ok.unwish {X : Cx} {E : EV} (ok : (X.wish E).Ok) : X.Ok :=
 ⟨ok.mod, ok.kind, ok.glob, ok.blt, ok.above, ok.inj, ok.has, ok.cab, ok.hd, ok.frames, ok.stk, ok.exf, ok.bs, ok.bsz, ok.noex, ok.exfs, ok.funs, ok.frf⟩
section
variable {X : Cx} {pins : OP} {σ : St} {H : Hp} {s : Shared} {E : EV}
theorem Inv.wish (I : Inv X pins σ H s) (E : EV) : Inv (X.wish E) pins σ H s := ⟨I.ok.wish E, I.os, I.bare, I.base, I.loc, I.cell, I.free, I.freeC, I.pin, I.hok, I.len⟩
theorem Inv.unwish (I : Inv (X.wish E) pins σ H s) : Inv X pins σ H s := ⟨I.ok.unwish, I.os, I.bare, I.base, I.loc, I.cell, I.free, I.freeC, I.pin, I.hok, I.len⟩
theorem SP.unwish {D : Ends} {f : Flow} {s' : Shared} (h : SP (X.wish E) pins D f s') : SP X pins D f s' := by
 cases f with
 | next => obtain ⟨σ', H', I, q⟩ := h; exact ⟨σ', H', I.unwish, q⟩
 | brk => obtain ⟨σ', H', I, q⟩ := h; exact ⟨σ', H', I.unwish, q⟩
 | cont => obtain ⟨σ', H', I, q⟩ := h; exact ⟨σ', H', I.unwish, q⟩
 | ret u => obtain ⟨v, σ', H', I, r, q⟩ := h; exact ⟨v, σ', H', I.unwish, r, q⟩
theorem PSs.nox {st : List Stmt} {t : TS} (h : PSs X.nox st t) : PSs X st t := fun pins s σ H D I hw =>
 wpAny_mono (h pins s σ H D (I.wish _) hw) (fun _ _ q => q.unwish) fun _ _ z => False.elim z
end
section
variable {X : Cx} {st : Stmt} {rest : List Stmt} {t u : TS} {e : Expr} {te : TE} {pos : Pos}
def Ks : TS := fun D σ H => D.nx σ H
def RN (t u : TS) : TS := fun D σ H => t { D with nx := u D } σ H
theorem qJ : PSs X [] Ks := fun _ _ σ H _ I h => wpAny_execs_nil ⟨σ, H, I, h⟩
theorem dz (h1 : PS X st t) (h2 : PSs X rest u) : PSs X (st :: rest) (RN t u) := by
 intro pins s σ H D I h
 refine wpAny_execs_cons (thn (h1 pins s σ H { D with nx := u D } I h) fun f s1 q => ?_)
 cases f with
 | next =>
  obtain ⟨σ', H', I', q⟩ := q
  exact h2 pins s1 σ' H' D I' q
 | ret v => exact q
 | brk => exact q
 | cont => exact q
theorem gC (h1 : PS X st t) : PSs X [st] t := by
 intro pins s σ H D I h
 refine wpAny_execs_cons (thn (h1 pins s σ H D I h) fun f s1 q => ?_)
 cases f with
 | next => exact wpAny_execs_nil q
 | ret v => exact q
 | brk => exact q
 | cont => exact q
theorem Inv.quiet {pins : OP} {σ : St} {H : Hp} {s : Shared} (I : Inv X pins σ H s) : interactive X.env = false := by simp [interactive, I.ok.kind]
def Gy (te : TE) : TS := fun D σ H => te σ H fun _ H1 => D.nx σ H1
theorem JZ (he : PE X e te) (hs : swapsWith e none pos.line X.env = pure false := by rfl) : PS X (.Expr e pos) (Gy te) := by
 intro pins s σ H D I h
 exact wpAny_Expr_any (thn (he pins s σ H _ I h) fun v s1 ⟨x, H1, I1, r1, q1⟩ => ⟨σ, H1, I1, q1⟩) I.quiet hs
def FQ (te : TE) : TS := fun D σ H => te σ H D.rt
theorem kW (he : PE X e te) : PS X (.Return (some e) pos) (FQ te) := by
 intro pins s σ H D I h
 exact wpAny_Return_some (thn (he pins s σ H _ I h) fun v s1 ⟨x, H1, I1, r1, q1⟩ => ⟨x, σ, H1, I1, r1, q1⟩)
def Va (c : TT) (t u : TS) : TS := fun D σ H => c σ H fun b H1 => if b = true then t D σ H1 else u D σ H1
theorem zQ {c : Expr} {a b : List Stmt} {tc : TT} (hc : PT X c tc) (ha : PSs X a t) (hb : PSs X b u) : PS X (.If c a b pos) (Va tc t u) := by
 intro pins s σ H D I h
 refine wpAny_If (thn (hc pins s σ H _ I h) fun d s1 ⟨H1, I1, q1⟩ => ?_)
 cases d with
 | true => exact ha pins s1 σ H1 D I1 q1
 | false => exact hb pins s1 σ H1 D I1 q1
end
abbrev TG := V -> St -> Hp -> (St -> Hp -> Prop) -> Prop
abbrev TGs := List V -> St -> Hp -> (St -> Hp -> Prop) -> Prop
def PG (X : Cx) (target : Expr) (t : TG) : Prop :=
 ∀ (pins : OP) (s : Shared) (σ : St) (H : Hp) (v : V) (u : Value) (Q : St -> Hp -> Prop), Inv X pins σ H s -> RelV v u -> t v σ H Q ->
  wpAny (model X.prog X.w) X.A (assign target X.env u) (fun _ s' => ∃ σ' H', Inv X pins σ' H' s' /\ Q σ' H') X.xe s
def PGs (X : Cx) (ts : List Expr) (t : TGs) : Prop :=
 ∀ (pins : OP) (s : Shared) (σ : St) (H : Hp) (vs : List V) (us : List Value) (Q : St -> Hp -> Prop), Inv X pins σ H s -> Vals vs us -> t vs σ H Q ->
  wpAny (model X.prog X.w) X.A (assignInOrder ((assignEach ts X.env).map (·.2)) us) (fun _ s' => ∃ σ' H', Inv X pins σ' H' s' /\ Q σ' H') X.xe s
section
variable {X : Cx} {pos : Pos}
def dI (i : Nat) : TG := fun v σ H Q => Q (σ.set i (some v)) H
theorem bj {i : Nat} {x : Str} (hN : X.N.Nodup) (hi : X.N[i]? = some x) (hx : Loc X.env.scope x) (hf : X.fn x = true \/ X.env.scope.names.lookup x = some .local := by first | exact .inl rfl | exact .inr rfl | assumption) : PG X (.Name x pos) (dI i) := by
 intro pins s σ H v u Q I r h
 exact wpAny_assign_Name (pI I hN hi hx r (fun s' I' => ⟨_, H, I', h⟩) hf)
def V2 : TGs := fun vs σ H Q => vs = [] /\ Q σ H
def Gx (t : TG) (u : TGs) : TGs := fun vs σ H Q => ∃ v r, vs = v :: r /\ t v σ H fun σ' H' => u r σ' H' Q
theorem nY : PGs X [] V2 := by
 intro pins s σ H vs us Q I r h
 obtain ⟨e, h⟩ := h
 subst e
 cases r
 exact assignInOrder_nil ⟨σ, H, I, h⟩
theorem bM {e : Expr} {es : List Expr} {t : TG} {u : TGs} (h1 : PG X e t) (h2 : PGs X es u)
  (hs : (assignEach (e :: es) X.env).map (·.2) = assign e X.env :: (assignEach es X.env).map (·.2) := by rfl) : PGs X (e :: es) (Gx t u) := by
 intro pins s σ H vs us Q I r h
 obtain ⟨v, vr, e1, h⟩ := h
 subst e1
 cases r with
 | cons r rr =>
  rw [hs]
  refine assignInOrder_cons (thn (h1 pins s σ H _ _ _ I r h) fun _ s1 ⟨σ1, H1, I1, q1⟩ => ?_)
  exact h2 pins s1 σ1 H1 _ _ Q I1 rr q1
def Lh (K : Frag) (n : Nat) (t : TGs) : TG := fun v σ H Q => ∃ a xs, v = .ref a /\ SqT K H a xs /\ xs.length = n /\ t xs σ H Q
theorem Mx {es : List Expr} {k : Nat} {t : TGs} {n : Nat} (hc : X.calm = true) (h : PGs X es t)
  (hn : (assignEach es X.env).length = n := by rfl) (hst : (assignEach es X.env).findIdx? (·.1) = none := by rfl) : PG X (.Tuple es k pos) (Lh X.K n t) := by
 intro pins s σ H v u Q I r hw
 obtain ⟨a, xs, e1, hq, hl, hw⟩ := hw
 subst e1
 cases r
 obtain ⟨its, rv, ht, hz⟩ := I.tuple hq
 refine assign_Tuple_tuple (I.ok.hd hc) ht (by simp [hn, <- hl, rv.length]) hst fun h' hx => ?_
 have I1 : Inv X pins σ H { s with heap := h' } := I.kept (t' := s.toks) fun b o e => hx b o (ne_of_lt (Heap.lt_size e)) e
 exact h pins _ σ H xs _ Q I1 (by simpa using rv) hw
def Ao (te : TE) (g : TG) : TS := fun D σ H => te σ H fun x H1 => g x σ H1 D.nx
theorem MF {tg e : Expr} {te : TE} {g : TG} (he : PE X e te) (hg : PG X tg g) (hs : swapsWithSole [tg] e pos.line X.env = pure false := by rfl) (hw : swappedStores [tg] e X.env = pure none := by rfl)
  (h1 : (assignEach [tg] X.env).map (·.2) = [assign tg X.env] := by rfl) : PS X (.Assign [tg] e pos) (Ao te g) := by
 intro pins s σ H D I h
 refine wpAny_Assign_stores (thn (he pins s σ H _ I h) fun v s1 ⟨x, H1, I1, r1, q1⟩ => ?_) hs hw
 rw [h1]
 exact thn (hg pins s1 σ H1 x v _ I1 r1 q1) fun _ s2 q => q
theorem nu {i : Nat} {x : Str} {e : Expr} {te : TE} {pos' : Pos} (hN : X.N.Nodup) (hi : X.N[i]? = some x) (hx : Loc X.env.scope x) (he : PE X e te) (hs : swapsWith e (some (.Name x pos')) pos.line X.env = pure false := by rfl) (hf : X.fn x = true \/ X.env.scope.names.lookup x = some .local := by first | exact .inl rfl | exact .inr rfl | assumption) :
  PS X (.Assign [.Name x pos'] e pos) (Ao te (dI i)) := by
 intro pins s σ H D I h
 refine wpAny_Assign_Name (thn (he pins s σ H _ I h) fun v s1 ⟨y, H1, I1, r1, q1⟩ => ?_) hs
 exact pI I1 hN hi hx r1 (fun s2 I2 => ⟨_, H1, I2, q1⟩) hf
end
section
variable {X : Cx} {pos : Pos}
end
structure It where
 go : Nat -> Hp -> Prop
 yld : Nat -> Hp -> V -> Hp -> Prop
 stop : Nat -> Hp -> Prop
def ud (X : Cx) (pins : OP) (H : Hp) (b : Addr) : Prop :=
 H b = none /\ b ≠ X.env.locals /\ b ∉ X.fs /\ (b ∈ X.ex \/ X.s₀.heap.objs.size <= b) /\ (∀ x c, X.env.cells.lookup x = some c -> c ≠ b) /\ ∀ p ∈ X.pn ++ pins, p.1 ≠ b
theorem Inv.fpOk {X : Cx} {pins : OP} {σ : St} {H H' : Hp} {s : Shared} {b : Addr} (I : Inv X pins σ H s) (hb : s.heap.objs.size <= b) (hn : H' b = none) : ud X pins H' b := by
 refine ⟨hn, ne_of_gt (lt_of_lt_of_le I.lt hb), I.nofs hb, .inr (le_trans I.sz hb), fun x c e z => ?_, fun p hp z => ?_⟩
 ·obtain ⟨v, q⟩ := I.cell x c e
  exact absurd (lt_of_lt_of_le q.lt (by rw [z]; exact hb)) (lt_irrefl _)
 ·exact absurd (lt_of_lt_of_le (Heap.lt_size (I.pin p hp).1) (by rw [z]; exact hb)) (lt_irrefl _)
structure Turn (P : Program) (w : World) (K : Frag) (tg : Expr) (J : It) (fp : List Addr) (it : Addr) (tn : Nat -> Heap -> Prop) : Prop where
 mem : it ∈ fp
 obj : ∀ i h, tn i h -> ∀ b ∈ fp, ∃ o, h.get? b = some o /\ ∀ v, o.data ≠ .cell v
 keep : ∀ i h h', tn i h -> (∀ b ∈ fp, ∀ o, h.get? b = some o -> h'.get? b = some o) -> tn i h'
 item : ∀ (X : Cx), X.prog = P -> X.w = w -> X.K = K -> X.calm = true -> ∀ (i : Nat) (pins : OP) (s : Shared) (σ : St) (H : Hp) (E : EV), Inv X pins σ H s -> (∀ b ∈ fp, ud X pins H b) -> tn i s.heap -> J.go i H ->
  wpAny (model P w) X.A (pyNext (.ref it)) (fun r s1 => ∃ u, r = some u /\
   wpAny (model P w) X.A (letOwnedTupleGo tg (.ref it) u) (fun _ s2 => ∃ x H', Inv X pins σ H' s2 /\ RelV x u /\ J.yld i H x H' /\ tn (i + 1) s2.heap /\ ∀ b ∈ fp, H' b = none) E s1) E s
 done : ∀ (X : Cx), X.prog = P -> X.w = w -> X.K = K -> X.calm = true -> ∀ (i : Nat) (pins : OP) (s : Shared) (σ : St) (H : Hp) (E : EV), Inv X pins σ H s -> (∀ b ∈ fp, ud X pins H b) -> tn i s.heap -> J.stop i H ->
  wpAny (model P w) X.A (pyNext (.ref it)) (fun r s1 => r = none /\ Inv X pins σ H s1) E s
 self : ∀ (A : Around) (i : Nat) (s : Shared) (Q : EV) (E : EV), tn i s.heap -> Q (.ref it) s -> wpAny (model P w) A (pyIter (.ref it)) Q E s
abbrev TI := St -> Hp -> (It -> Hp -> Prop) -> Prop
def PIE (X : Cx) (pins : OP) (σ : St) (tg : Expr) (R : It -> Hp -> Prop) (itv : Value) (s2 : Shared) : Prop :=
 ∃ (it : Addr) (fp : List Addr) (tn : Nat -> Heap -> Prop) (J : It) (H' : Hp), itv = .ref it /\ Inv X pins σ H' s2 /\ Turn X.prog X.w X.K tg J fp it tn /\ tn 0 s2.heap /\ (∀ b ∈ fp, ud X pins H' b) /\ R J H'
def PI (X : Cx) (tg iter : Expr) (wi : TI) : Prop :=
 ∀ (pins : OP) (s : Shared) (σ : St) (H : Hp) (R : It -> Hp -> Prop), Inv X pins σ H s -> wi σ H R ->
  wpAny (model X.prog X.w) X.A (eval iter X.env) (fun v s1 => wpAny (model X.prog X.w) X.A (pyIter v) (PIE X pins σ tg R) X.xe s1) X.xe s
theorem Ag {M : Model} {A : Around} {E : EV} {s : Shared} {tg : Expr} {it : Addr} {u : Value} {o : Obj} {n : String} {vs : Array Value} {Q : Unit -> Shared -> Prop} (ho : s.heap.get? it = some o) (hc : o.cls = .type n) (hd : o.data = .fields vs)
  (hn : ["enumerate", "zip", "dict_itemiterator", "dict_reverseitemiterator", "odict_iterator", "itertools.zip_longest", "itertools.pairwise"].contains n = false) (hQ : Q () s) : wpAny M A (letOwnedTupleGo tg (.ref it) u) Q E s := by
 unfold letOwnedTupleGo
 cases tg <;> first
  | exact wpAny_pure hQ
  | (cases u <;> first
    | exact wpAny_pure hQ
    | (refine wpAny_bind (wpAny_load ho ?_)
       rw [hc, hd]
       show wpAny M A (if (["enumerate", "zip", "dict_itemiterator", "dict_reverseitemiterator", "odict_iterator", "itertools.zip_longest", "itertools.pairwise"].contains n && vs[0]? == some (rawInt _)) = true then _ else _) Q E s
       rw [if_neg (by intro h; rw [hn, Bool.false_and] at h; cases h)]
       exact wpAny_pure hQ))
def Itl (K : Frag) (a : Addr) : It :=
 ⟨fun i H => ∃ xs x, SqL K H a xs /\ xs[i]? = some x, fun i H x H' => H' = H /\ ∀ xs, SqL K H a xs -> xs[i]? = some x, fun i H => ∃ xs, SqL K H a xs /\ xs.length <= i⟩
def Itt (K : Frag) (a : Addr) : It :=
 ⟨fun i H => ∃ xs x, SqT K H a xs /\ xs[i]? = some x, fun i H x H' => H' = H /\ ∀ xs, SqT K H a xs -> xs[i]? = some x, fun i H => ∃ xs, SqT K H a xs /\ xs.length <= i⟩
def Itr (lo : Int) (n : Nat) : It := ⟨fun i _ => i < n, fun i H x H' => H' = H /\ x = .int (lo + i), fun i _ => n <= i⟩
theorem Ex {P : Program} {w : World} {K : Frag} {tg : Expr} (a it : Addr) : Turn P w K tg (Itl K a) [it] it (fun i h => h.IsListIter it a i) where
 mem := by simp
 obj := fun i h st b hb => by
  have e : b = it := by simpa using hb
  subst e
  obtain ⟨o, e, c, d⟩ := st
  exact ⟨o, e, fun v z => by rw [d] at z; cases z⟩
 keep := fun i h h' st k => st.at fun o e => k it Z2 o e
 item := by
  intro X hP hw hK hc i pins s σ H E I hf st hg
  subst hP hw hK
  obtain ⟨xs, x, hq, hx⟩ := hg
  obtain ⟨its, rv, p, hz⟩ := I.list hq
  obtain ⟨u, hu, ru⟩ := rv.get hx
  obtain ⟨f0, f1, f2, f3, f4, f5⟩ := hf it Z2
  refine wpAny_pyNext_list_item st p.isList (x := u) (by simpa using hu) fun h' st' sb => ?_
  have I1 : Inv X pins σ H { s with heap := h' } := I.turned (t' := s.toks) (fun b o hb e => (sb.2 b hb).trans e) f0 f1 f3 f4 f5
  obtain ⟨o, e, c, d⟩ := id st'
  exact ⟨u, rfl, Ag (s := { s with heap := h' }) e c d Z0 ⟨x, H, I1, ru, ⟨rfl, fun ys hy => by rw [I.list_inj hy hq]; exact hx⟩, st', fun b hb => (hf b hb).1⟩⟩
 done := by
  intro X hP hw hK hc i pins s σ H E I hf st hg
  subst hP hw hK
  obtain ⟨xs, hq, hx⟩ := hg
  obtain ⟨its, rv, p, hz⟩ := I.list hq
  obtain ⟨f0, f1, f2, f3, f4, f5⟩ := hf it Z2
  have hl := rv.length
  exact wpAny_pyNext_list_end (I.ok.hd hc) st p.isList Z6 fun h' eb => ⟨rfl, I.turned (t' := s.toks) (fun b o hb e => eb b o hb e) f0 f1 f3 f4 f5⟩
 self := fun _ _ _ _ _ st h => wpAny_pyIter_listiter st h
theorem Bf {P : Program} {w : World} {K : Frag} {tg : Expr} (a it : Addr) : Turn P w K tg (Itt K a) [it] it (fun i h => h.IsTupleIter it a i) where
 mem := by simp
 obj := fun i h st b hb => by
  have e : b = it := by simpa using hb
  subst e
  obtain ⟨o, e, c, d⟩ := st
  exact ⟨o, e, fun v z => by rw [d] at z; cases z⟩
 keep := fun i h h' st k => st.at fun o e => k it Z2 o e
 item := by
  intro X hP hw hK hc i pins s σ H E I hf st hg
  subst hP hw hK
  obtain ⟨xs, x, hq, hx⟩ := hg
  obtain ⟨its, rv, p, hz⟩ := I.tuple hq
  obtain ⟨u, hu, ru⟩ := rv.get hx
  obtain ⟨f0, f1, f2, f3, f4, f5⟩ := hf it Z2
  refine wpAny_pyNext_tuple_item st (show s.heap.IsTuple a its.toArray from p) (x := u) (by simpa using hu) fun h' st' sb => ?_
  have I1 : Inv X pins σ H { s with heap := h' } := I.turned (t' := s.toks) (fun b o hb e => (sb.2 b hb).trans e) f0 f1 f3 f4 f5
  obtain ⟨o, e, c, d⟩ := id st'
  exact ⟨u, rfl, Ag (s := { s with heap := h' }) e c d Z0 ⟨x, H, I1, ru, ⟨rfl, fun ys hy => by rw [I.tuple_inj hy hq]; exact hx⟩, st', fun b hb => (hf b hb).1⟩⟩
 done := by
  intro X hP hw hK hc i pins s σ H E I hf st hg
  subst hP hw hK
  obtain ⟨xs, hq, hx⟩ := hg
  obtain ⟨its, rv, p, hz⟩ := I.tuple hq
  obtain ⟨f0, f1, f2, f3, f4, f5⟩ := hf it Z2
  have hl := rv.length
  exact wpAny_pyNext_tuple_end (I.ok.hd hc) st (show s.heap.IsTuple a its.toArray from p) Z6 fun h' eb => ⟨rfl, I.turned (t' := s.toks) (fun b o hb e => eb b o hb e) f0 f1 f3 f4 f5⟩
 self := fun _ _ _ _ _ st h => wpAny_pyIter_tupleiter st h
theorem Be {P : Program} {w : World} {K : Frag} {tg : Expr} (it : Addr) (lo : Int) (n : Nat) : Turn P w K tg (Itr lo n) [it] it (fun i h => IsRangeIter h it (lo + (i : Nat) * 1) ((n : Int) - (i : Nat)) 1) where
 mem := by simp
 obj := fun i h st b hb => by
  have e : b = it := by simpa using hb
  subst e
  exact ⟨_, st, fun v z => by
   have z' : Data.fields _ = Data.cell v := z
   cases z'⟩
 keep := fun i h h' st k => k it Z2 _ st
 item := by
  intro X hP hw hK hc i pins s σ H E I hf st hg
  subst hP hw hK
  obtain ⟨f0, f1, f2, f3, f4, f5⟩ := hf it Z2
  have W := Walks.range (prog := X.prog) (w := X.w) (I.ok.hd hc) it lo 1 n
  refine W.item i s _ _ hg st fun v h' tk hv st' kk => ?_
  obtain ⟨t, rfl⟩ := hv
  have I1 : Inv X pins σ H { s with heap := h', toks := tk } := I.turned (fun b o hb e => kk b o (by simpa using hb) e) f0 f1 f3 f4 f5
  refine ⟨_, rfl, Ag (s := { s with heap := h', toks := tk }) (n := "range_iterator") st' rfl rfl Z0 ⟨.int (lo + i), H, I1, ⟨t, ?_⟩, ⟨rfl, rfl⟩, st', fun b hb => (hf b hb).1⟩⟩
  rw [Int.mul_one]
 done := by
  intro X hP hw hK hc i pins s σ H E I hf st hg
  subst hP hw hK
  obtain ⟨f0, f1, f2, f3, f4, f5⟩ := hf it Z2
  exact wpAny_pyNext_range_end (I.ok.hd hc) st (by have : n <= i := hg; omega) fun h' eb => ⟨rfl, I.turned (t' := s.toks) (fun b o hb e => eb b o hb e) f0 f1 f3 f4 f5⟩
 self := fun _ _ _ _ _ st h => wpAny_pyIter_rangeiter st h
section
variable {X : Cx} {tg : Expr}
def VF (K : Frag) (tl : TE) : TI := fun σ H R => tl σ H fun x H1 => ∃ a, x = .ref a /\ (∃ xs, SqL K H1 a xs) /\ R (Itl K a) H1
def XH (K : Frag) (tl : TE) : TI := fun σ H R => tl σ H fun x H1 => ∃ a, x = .ref a /\ (∃ xs, SqT K H1 a xs) /\ R (Itt K a) H1
theorem gG {l : Expr} {tl : TE} (hl : PE X l tl) : PI X tg l (VF X.K tl) := by
 intro pins s σ H R I h
 refine thn (hl pins s σ H _ I h) fun v s1 ⟨x, H1, I1, r1, q1⟩ => ?_
 obtain ⟨a, e, ⟨xs, hq⟩, q⟩ := q1
 subst e
 cases r1
 obtain ⟨its, rv, p, hz⟩ := I1.list hq
 refine wpAny_pyIter_list p.isList ?_
 refine ⟨s1.heap.objs.size, [s1.heap.objs.size], _, _, H1, rfl, I1.kept (t' := s1.toks) fun b o e => Heap.get?_push_of_some _ e, Ex a _, ⟨_, Heap.get?_push_size _ rfl, rfl, rfl⟩, fun b hb => ?_, q⟩
 have e : b = s1.heap.objs.size := by simpa using hb
 subst e
 exact I1.fpOk (le_refl _) (I1.hok.fresh (le_refl _))
theorem Mf {l : Expr} {tl : TE} (hl : PE X l tl) : PI X tg l (XH X.K tl) := by
 intro pins s σ H R I h
 refine thn (hl pins s σ H _ I h) fun v s1 ⟨x, H1, I1, r1, q1⟩ => ?_
 obtain ⟨a, e, ⟨xs, hq⟩, q⟩ := q1
 subst e
 cases r1
 obtain ⟨its, rv, p, hz⟩ := I1.tuple hq
 refine wpAny_pyIter_tuple (show s1.heap.IsTuple a its.toArray from p) ?_
 refine ⟨s1.heap.objs.size, [s1.heap.objs.size], _, _, H1, rfl, I1.kept (t' := s1.toks) fun b o e => Heap.get?_push_of_some _ e, Bf a _, ⟨_, Heap.get?_push_size _ rfl, rfl, rfl⟩, fun b hb => ?_, q⟩
 have e : b = s1.heap.objs.size := by simpa using hb
 subst e
 exact I1.fpOk (le_refl _) (I1.hok.fresh (le_refl _))
theorem HQ {pins : OP} {σ : St} {H : Hp} {s : Shared} {R : It -> Hp -> Prop} {E : EV} {lo hi : Int} {t u v : Tok} {tk : Nat} (I : Inv X pins σ H s) (h1 : -(2 ^ 62) <= lo) (h2 : lo < 2 ^ 62) (h3 : -(2 ^ 62) <= hi) (h4 : hi < 2 ^ 62)
  (q : R (Itr lo (hi - lo).toNat) H) : wpAny (model X.prog X.w) X.A (pyIter (.ref s.heap.objs.size)) (PIE X pins σ tg R) E { s with heap := s.heap.push { cls := .type "range", data := .fields #[.int lo t, .int hi u, .int 1 v] }, toks := tk } := by
 refine wpAny_pyIter_range (IsRange.new ..) (small_one h1 h2 h3 h4) ?_
 have I1 : Inv X pins σ H { s with heap := s.heap.push { cls := .type "range", data := .fields #[.int lo t, .int hi u, .int 1 v] }, toks := tk } := I.kept fun b o e => Heap.get?_push_of_some _ e
 refine ⟨(s.heap.push { cls := .type "range", data := .fields #[.int lo t, .int hi u, .int 1 v] }).objs.size, [(s.heap.push { cls := .type "range", data := .fields #[.int lo t, .int hi u, .int 1 v] }).objs.size], _, _, H, rfl,
  I1.kept (t' := tk) fun b o e => Heap.get?_push_of_some _ e, Be _ lo (hi - lo).toNat, ?_, fun b hb => ?_, q⟩
 ·have e1 : lo + ((0 : Nat) : Int) * 1 = lo := by simp
  have e2 : (((hi - lo).toNat : Nat) : Int) - ((0 : Nat) : Int) = Builtin.Range.rangeSize lo hi 1 := by rw [rangeSize_one]; split <;> omega
  show IsRangeIter _ _ (lo + ((0 : Nat) : Int) * 1) ((((hi - lo).toNat : Nat) : Int) - ((0 : Nat) : Int)) 1
  rw [e1, e2]
  exact Heap.get?_push_size _ rfl
 ·have e : b = (s.heap.push { cls := .type "range", data := .fields #[.int lo t, .int hi u, .int 1 v] }).objs.size := by simpa using hb
  subst e
  exact I1.fpOk (le_refl _) (I1.hok.fresh (le_refl _))
def UV (ta : TA) : TI := fun σ H R => ta σ H fun vs H1 => ∃ j : Int, vs = [.int j] /\ -(2 ^ 62) <= j /\ j < 2 ^ 62 /\ R (Itr 0 j.toNat) H1
theorem lA {a : Expr} {ta : TA} {p pos : Pos} (hg : Gl X "range") (hm : X.mg "range" = none) (ha : PA X [a] ta) (hs : starEach [a] X.env = [(false, eval a X.env)] := by rfl) : PI X tg (.Call (.Name "range" p) [a] [] pos) (UV ta) := by
 intro pins s σ H R I h
 refine Call_ (qX I hg hm boot_range (PyProof.Rows.callWith_type1 (thn (ha pos pins s σ H _ I h) fun us s1 ⟨vs, H1, I1, r1, q1⟩ => ?_) hs rfl))
 obtain ⟨j, e, q1, q2, q⟩ := q1
 subst e
 cases r1 with
 | cons r rr =>
  cases rr
  obtain ⟨t, rfl⟩ := r
  exact call_range_1 (HQ I1 Z1 Z1 q1 q2 (by simpa using q))
def U9 (wi : TI) (g : TG) (tb : TS) : TS := fun D σ H => wi σ H fun J H1 => ∃ W : Nat -> Nat -> St -> Hp -> Prop, (∃ m, W 0 m σ H1) /\ ∀ i m σ H, W i m σ H ->
 (J.stop i H /\ D.nx σ H) \/ (J.go i H /\ ∃ N : St -> Hp -> Prop, (∀ σ' H', N σ' H' -> ∃ m', m' < m /\ W (i + 1) m' σ' H') /\ ∀ x H', J.yld i H x H' -> g x σ H' fun σ2 H2 => tb { D with nx := N, ct := N, bk := D.nx } σ2 H2)
def uP (fp : List Addr) (h : Heap) : OP := fp.filterMap fun b => (h.get? b).map fun o => (b, o)
theorem lW {fp : List Addr} {h : Heap} {b : Addr} {o : Obj} (hb : b ∈ fp) (e : h.get? b = some o) : (b, o) ∈ uP fp h := List.mem_filterMap.mpr ⟨b, hb, by rw [e]; rfl⟩
theorem DQ {fp : List Addr} {h : Heap} {p : Addr × Obj} (hp : p ∈ uP fp h) : p.1 ∈ fp /\ h.get? p.1 = some p.2 := by
 obtain ⟨b, hb, e⟩ := List.mem_filterMap.mp hp
 cases q : h.get? b with
 | none => rw [q] at e; cases e
 | some o =>
  rw [q] at e
  have e' : (b, o) = p := Option.some.inj e
  subst e'
  exact ⟨hb, q⟩
theorem Inv.pinned {pins : OP} {σ : St} {H : Hp} {s : Shared} {fp : List Addr} (I : Inv X pins σ H s) (hf : ∀ b ∈ fp, ud X pins H b) (ho : ∀ b ∈ fp, ∃ o, s.heap.get? b = some o /\ ∀ v, o.data ≠ .cell v) : Inv X (pins ++ uP fp s.heap) σ H s :=
 I.pins_of fun p hp => (mem_append.mp hp).elim (fun z => I.pin p (mem_append_right _ z)) fun z => by
  obtain ⟨hb, e⟩ := DQ z
  obtain ⟨f0, f1, f2, _⟩ := hf p.1 hb
  obtain ⟨o, e', d⟩ := ho p.1 hb
  rw [e] at e'; cases e'
  exact ⟨e, f0, f1, f2, d⟩
theorem Inv.unpinned {pins pl : OP} {σ : St} {H : Hp} {s : Shared} (I : Inv X (pins ++ pl) σ H s) : Inv X pins σ H s := I.pins_of fun p hp => I.pin p (mem_append_right _ (mem_append_left _ hp))
theorem K3 {iter : Expr} {body : List Stmt} {wi : TI} {g : TG} {tb : TS} {pos : Pos} (hp : PassesOwn (model X.prog X.w) X.A X.env X.xe) (hc : X.calm = true) (hi : PI X tg iter wi) (hg : PG X tg g) (hb : PSs X body tb)
  (hs : ∀ x, foldedSetIterable iter X.env x = pure x := by intro _; rfl) : PS X (.For tg iter body [] pos) (U9 wi g tb) := by
 intro pins s σ H D I h
 refine wpAny_For (thn (hi pins s σ H _ I h) fun v s1 h1 => thn h1 fun itv s2 h2 => ?_) hs
 obtain ⟨it, fp, tn, J, H2, e, I2, T, st2, f2, W, ⟨m0, w0⟩, turn⟩ := h2
 subst e
 have stat : ∀ {H' : Hp}, (∀ b ∈ fp, H' b = none) -> ∀ b ∈ fp, ud X pins H' b := fun hn b hb => ⟨hn b hb, (f2 b hb).2⟩
 refine codeAny_forLoop_any (fun n s' => ∃ i σ' H', Inv X pins σ' H' s' /\ tn i s'.heap /\ (∀ b ∈ fp, H' b = none) /\ W i n σ' H') ?_ m0 ⟨0, σ, H2, I2, st2, fun b hb => (f2 b hb).1, w0⟩
 rintro n s3 ⟨i, σ3, H3, I3, st3, fr3, w3⟩
 rcases turn i n σ3 H3 w3 with ⟨stop, qn⟩ | ⟨go, N, hN, step⟩
 ·refine wpAny_passesOwn hp (thn (T.done X rfl rfl rfl hc i pins s3 σ3 H3 X.xe I3 (stat fr3) st3 stop) fun r s4 ⟨hr, I4⟩ => ?_)
  subst hr
  exact wpAny_execs_nil ⟨σ3, H3, I4, qn⟩
 ·refine wpAny_passesOwn hp (thn (T.item X rfl rfl rfl hc i pins s3 σ3 H3 X.xe I3 (stat fr3) st3 go) fun r s4 ⟨u, hr, h4⟩ => ?_)
  subst hr
  refine wpAny_passesOwn hp (thn h4 fun _ s5 ⟨x, H5, I5, r5, y5, st5, fr5⟩ => ?_)
  have I5' := I5.pinned (stat fr5) (T.obj _ _ st5)
  refine wpAny_passesOwn hp (thn (hg _ s5 σ3 H5 x u _ I5' r5 (step x H5 y5)) fun _ s6 ⟨σ6, H6, I6, q6⟩ => ?_)
  refine wpAny_passesOwn hp (thn (hb _ s6 σ6 H6 _ I6 q6) fun f s7 q7 => ?_)
  have again : ∀ {σ7 : St} {H7 : Hp}, Inv X (pins ++ uP fp s5.heap) σ7 H7 s7 -> N σ7 H7 -> ∃ m, m < n /\ ∃ i σ' H', Inv X pins σ' H' s7 /\ tn i s7.heap /\ (∀ b ∈ fp, H' b = none) /\ W i m σ' H' := fun {σ7 H7} I7 n7 => by
   obtain ⟨m', hm, w7⟩ := hN σ7 H7 n7
   refine ⟨m', hm, i + 1, σ7, H7, I7.unpinned, T.keep _ _ _ st5 fun b hb o e => (I7.pin (b, o) (mem_append_right _ (mem_append_right _ (lW hb e)))).1, fun b hb => ?_, w7⟩
   obtain ⟨o, e, d⟩ := T.obj _ _ st5 b hb
   exact (I7.pin (b, o) (mem_append_right _ (mem_append_right _ (lW hb e)))).2.1
  cases f with
  | next => obtain ⟨σ7, H7, I7, n7⟩ := q7; exact again I7 n7
  | cont => obtain ⟨σ7, H7, I7, n7⟩ := q7; exact again I7 n7
  | brk => obtain ⟨σ7, H7, I7, q7⟩ := q7; exact ⟨σ7, H7, I7.unpinned, q7⟩
  | ret v => obtain ⟨x7, σ7, H7, I7, r7, q7⟩ := q7; exact ⟨x7, σ7, H7, I7.unpinned, r7, q7⟩
end
theorem qD {K : Frag} {a : Addr} {xs : List V} {g : TG} {tb : TS} {D : Ends} {σ : St} {H : Hp} (Pv : Nat -> St -> Hp -> Prop) (h0 : Pv 0 σ H) (hl : ∀ i σ H, i <= xs.length -> Pv i σ H -> SqL K H a xs)
  (hs : ∀ i x σ H, xs[i]? = some x -> Pv i σ H -> g x σ H fun σ2 H2 => tb { D with nx := Pv (i + 1), ct := Pv (i + 1), bk := D.nx } σ2 H2) (hd : ∀ σ H, Pv xs.length σ H -> D.nx σ H) :
  ∃ W : Nat -> Nat -> St -> Hp -> Prop, (∃ m, W 0 m σ H) /\ ∀ i m σ H, W i m σ H ->
   ((Itl K a).stop i H /\ D.nx σ H) \/ ((Itl K a).go i H /\ ∃ N : St -> Hp -> Prop, (∀ σ' H', N σ' H' -> ∃ m', m' < m /\ W (i + 1) m' σ' H') /\ ∀ x H', (Itl K a).yld i H x H' -> g x σ H' fun σ2 H2 => tb { D with nx := N, ct := N, bk := D.nx } σ2 H2) := by
 refine ⟨fun i m σ H => m = xs.length - i /\ i <= xs.length /\ Pv i σ H, ⟨xs.length, Z2, zero_le _, h0⟩, ?_⟩
 rintro i m σ H ⟨rfl, hi, p⟩
 have q := hl i σ H hi p
 by_cases hlt : i < xs.length
 ·refine .inr ⟨⟨xs, xs[i], q, by simp [hlt]⟩, Pv (i + 1), fun σ' H' p' => ⟨xs.length - (i + 1), Z1, rfl, hlt, p'⟩, fun x H' y => ?_⟩
  obtain ⟨e, y⟩ := y
  subst e
  exact hs i x σ _ (y xs q) p
 ·have e : i = xs.length := by omega
  subst e
  exact .inl ⟨⟨xs, q, le_refl _⟩, hd σ H p⟩
theorem DX {lo : Int} {n : Nat} {g : TG} {tb : TS} {D : Ends} {σ : St} {H : Hp} (Pv : Nat -> St -> Hp -> Prop) (h0 : Pv 0 σ H)
  (hs : ∀ i σ H, i < n -> Pv i σ H -> g (.int (lo + i)) σ H fun σ2 H2 => tb { D with nx := Pv (i + 1), ct := Pv (i + 1), bk := D.nx } σ2 H2) (hd : ∀ σ H, Pv n σ H -> D.nx σ H) :
  ∃ W : Nat -> Nat -> St -> Hp -> Prop, (∃ m, W 0 m σ H) /\ ∀ i m σ H, W i m σ H ->
   ((Itr lo n).stop i H /\ D.nx σ H) \/ ((Itr lo n).go i H /\ ∃ N : St -> Hp -> Prop, (∀ σ' H', N σ' H' -> ∃ m', m' < m /\ W (i + 1) m' σ' H') /\ ∀ x H', (Itr lo n).yld i H x H' -> g x σ H' fun σ2 H2 => tb { D with nx := N, ct := N, bk := D.nx } σ2 H2) := by
 refine ⟨fun i m σ H => m = n - i /\ i <= n /\ Pv i σ H, ⟨n, Z2, zero_le _, h0⟩, ?_⟩
 rintro i m σ H ⟨rfl, hi, p⟩
 by_cases hlt : i < n
 ·refine .inr ⟨hlt, Pv (i + 1), fun σ' H' p' => ⟨n - (i + 1), Z1, rfl, hlt, p'⟩, fun x H' y => ?_⟩
  obtain ⟨e, y⟩ := y
  subst e y
  exact hs i σ _ hlt p
 ·have e : i = n := by omega
  subst e
  exact .inl ⟨le_refl _, hd σ H p⟩
abbrev R2 := V -> V -> Hp -> VK -> Prop
def OpR (X : Cx) (f : Value -> Value -> Sem Value) (r : R2) : Prop :=
 ∀ (pins : OP) (s : Shared) (σ : St) (H : Hp) (x y : V) (v u : Value) (Q : VK), Inv X pins σ H s -> RelV x v -> RelV y u -> r x y H Q ->
  wpAny (model X.prog X.w) X.A (f v u) (EP X pins σ Q) X.xe s
def UnR (X : Cx) (f : Value -> Sem Value) (r : V -> Hp -> VK -> Prop) : Prop :=
 ∀ (pins : OP) (s : Shared) (σ : St) (H : Hp) (x : V) (v : Value) (Q : VK), Inv X pins σ H s -> RelV x v -> r x H Q ->
  wpAny (model X.prog X.w) X.A (f v) (EP X pins σ Q) X.xe s
def fY (X : Cx) (f : Value) (r : List V -> Hp -> VK -> Prop) : Prop :=
 ∀ (pins : OP) (s : Shared) (σ : St) (H : Hp) (xs : List V) (us : List Value) (Q : VK), Inv X pins σ H s -> Vals xs us -> r xs H Q ->
  wpAny (model X.prog X.w) X.A (call f us) (EP X pins σ Q) X.xe s
def tOp (r : R2) (ta tb : TE) : TE := fun σ H Q => ta σ H fun x H1 => tb σ H1 fun y H2 => r x y H2 Q
def tUn (r : V -> Hp -> VK -> Prop) (ta : TE) : TE := fun σ H Q => ta σ H fun x H1 => r x H1 Q
def rI (C : Int -> Int -> Prop) (g : Int -> Int -> V) : R2 := fun x y H Q => ∃ i j, x = .int i /\ y = .int j /\ C i j /\ Q (g i j) H
def rI0 (g : Int -> Int -> V) : R2 := fun x y H Q => ∃ i j, x = .int i /\ y = .int j /\ Q (g i j) H
def rU (g : Int -> V) : V -> Hp -> VK -> Prop := fun x H Q => ∃ i, x = .int i /\ Q (g i) H
section
variable {X : Cx} {a b c : Expr} {ta tb tc : TE} {pos : Pos}
theorem K6 (ha : PE X a ta) (hb : PE X b tb) {pins : OP} {s : Shared} {σ : St} {H : Hp} {R : V -> V -> Hp -> Prop} (I : Inv X pins σ H s)
  (h : ta σ H fun x H1 => tb σ H1 fun y H2 => R x y H2) {Q : EV} {f : Value -> Value -> Sem Value}
  (hf : ∀ v u s2 x y H2, Inv X pins σ H2 s2 -> RelV x v -> RelV y u -> R x y H2 -> wpAny (model X.prog X.w) X.A (f v u) Q X.xe s2) :
  wpAny (model X.prog X.w) X.A (eval a X.env) (fun v s₁ => wpAny (model X.prog X.w) X.A (eval b X.env) (fun u s₂ => wpAny (model X.prog X.w) X.A (f v u) Q X.xe s₂) X.xe s₁) X.xe s := by
 refine thn (ha pins s σ H _ I h) fun v s1 ⟨x, H1, I1, r1, q1⟩ => ?_
 refine thn (hb pins s1 σ H1 _ I1 q1) fun u s2 ⟨y, H2, I2, r2, q2⟩ => ?_
 exact hf v u s2 x y H2 I2 r1 r2 q2
theorem aJ {op : Operator} {r : R2} (ho : OpR X (binaryOp op) r) (ha : PE X a ta) (hb : PE X b tb) : PE X (.BinOp a op b pos) (tOp r ta tb) := by
 intro pins s σ H Q I h
 exact wpAny_BinOp (K6 ha hb I h fun v u s2 x y H2 I2 rx ry q => ho pins s2 σ H2 x y v u Q I2 rx ry q)
theorem wF {op : UnaryOp} {r : V -> Hp -> VK -> Prop} (ho : UnR X (unaryOp op) r) (ha : PE X a ta) : PE X (.UnaryOp op a pos) (tUn r ta) := by
 intro pins s σ H Q I h
 exact UnaryOp_ (thn (ha pins s σ H _ I h) fun v s1 ⟨x, H1, I1, r1, q1⟩ => ho pins s1 σ H1 x v Q I1 r1 q1)
theorem opI {f : Value -> Value -> Sem Value} {C : Int -> Int -> Prop} {g : Int -> Int -> Int}
  (rule : ∀ (i j : Int) (t u : Tok) (s : Shared) (Q : EV) (E : EV), C i j -> Q (.int (g i j) s.toks) { s with toks := s.toks + 1 } -> wpAny (model X.prog X.w) X.A (f (.int i t) (.int j u)) Q E s) :
  OpR X f (rI C fun i j => .int (g i j)) := by
 intro pins s σ H x y v u Q I rx ry h
 obtain ⟨i, j, rfl, rfl, hc, q⟩ := h
 obtain ⟨t, rfl⟩ := rx
 obtain ⟨t', rfl⟩ := ry
 exact rule i j t t' s _ _ hc ⟨.int (g i j), H, I.tok _, ⟨_, rfl⟩, q⟩
theorem J0 {f : Value -> Value -> Sem Value} {g : Int -> Int -> Int}
  (rule : ∀ (i j : Int) (t u : Tok) (s : Shared) (Q : EV) (E : EV), Q (.int (g i j) s.toks) { s with toks := s.toks + 1 } -> wpAny (model X.prog X.w) X.A (f (.int i t) (.int j u)) Q E s) :
  OpR X f (rI0 fun i j => .int (g i j)) := by
 intro pins s σ H x y v u Q I rx ry h
 obtain ⟨i, j, rfl, rfl, q⟩ := h
 obtain ⟨t, rfl⟩ := rx
 obtain ⟨t', rfl⟩ := ry
 exact rule i j t t' s _ _ ⟨.int (g i j), H, I.tok _, ⟨_, rfl⟩, q⟩
theorem Lr {f : Value -> Value -> Sem Value} {g : Int -> Int -> Bool}
  (rule : ∀ (i j : Int) (t u : Tok) (s : Shared) (Q : EV) (E : EV), Q (.bool (g i j)) s -> wpAny (model X.prog X.w) X.A (f (.int i t) (.int j u)) Q E s) :
  OpR X f (rI0 fun i j => .bl (g i j)) := by
 intro pins s σ H x y v u Q I rx ry h
 obtain ⟨i, j, rfl, rfl, q⟩ := h
 obtain ⟨t, rfl⟩ := rx
 obtain ⟨t', rfl⟩ := ry
 exact rule i j t t' s _ _ ⟨.bl (g i j), H, I, rfl, q⟩
def Ms (i j : Int) : Prop := 0 < j /\ j < 1073741824
def M8 (i j : Int) : Prop := 0 <= j /\ j <= 1000000 /\ i.natAbs < 2 ^ 64
def FN (i j : Int) : Prop := (-(2 ^ 64) < i /\ i < 2 ^ 64) \/ (-(2 ^ 64) < j /\ j < 2 ^ 64)
theorem FN.ok {i j : Int} (h : FN i j) : IntMulOk i j := by
 rcases h with ⟨h1, h2⟩ | ⟨h1, h2⟩
 ·exact .of_left (intBits_le_64 h1 h2)
 ·exact .of_right (intBits_le_64 h1 h2)
theorem Bo (k : Nat) : (0 : Int) <= 2 ^ k := by
 rw [two_pow_cast]
 exact Int.natCast_nonneg _
theorem cA : OpR X (binaryOp .Add) (rI0 fun i j => .int (i + j)) := J0 fun _ _ _ _ _ _ _ q => add_int q
theorem qQ : OpR X (binaryOp .Sub) (rI0 fun i j => .int (i - j)) := J0 fun _ _ _ _ _ _ _ q => sub_int q
theorem ik : OpR X (binaryOp .Mult) (rI FN fun i j => .int (i * j)) := opI fun _ _ _ _ _ _ _ hc q => mul_int q hc.ok
theorem lL : OpR X (binaryOp .FloorDiv) (rI Ms fun i j => .int (i / j)) := opI fun i j _ _ _ _ _ hc q => by
 have h1 : (0 : Int) < j := hc.1
 have h2 : j < 1073741824 := hc.2
 exact floordiv_int Z1 (by rw [Int.fdiv_eq_ediv_of_nonneg i Z1]; exact q) (.inl (PyProof.noPylong_small Z1))
theorem fP : OpR X (binaryOp .Mod) (rI (fun _ j => 0 < j) fun i j => .int (i % j)) := opI fun i j _ _ _ _ _ hc q => by
 have h1 : (0 : Int) < j := hc
 exact mod_int' Z1 (by rw [Int.fmod_eq_emod_of_nonneg i Z1]; exact q)
theorem Gp : OpR X (binaryOp .Pow) (rI M8 fun i j => .int (i ^ j.toNat)) := opI fun _ _ _ _ _ _ _ hc q => pow_int_small hc.1 hc.2.1 hc.2.2 q
theorem Mz : OpR X (binaryOp .LShift) (rI M8 fun i j => .int (i * 2 ^ j.toNat)) := opI fun _ _ _ _ _ _ _ hc q => lshift_int_small hc.1 hc.2.1 hc.2.2 q
theorem qM : OpR X (binaryOp .RShift) (rI (fun _ j => 0 <= j) fun i j => .int (i / 2 ^ j.toNat)) := opI fun i j _ _ _ _ _ hc q =>
 rshift_int hc (by rw [Int.fdiv_eq_ediv_of_nonneg i (Bo _)]; exact q)
theorem Hk : OpR X (binaryOp .BitAnd) (rI0 fun i j => .int (Builtin.bitAnd i j)) := J0 fun _ _ _ _ _ _ _ q => and_int q
theorem Wu : OpR X (binaryOp .BitOr) (rI0 fun i j => .int (Builtin.bitOr i j)) := J0 fun _ _ _ _ _ _ _ q => or_int q
theorem unI {f : Value -> Sem Value} {g : Int -> Int}
  (rule : ∀ (i : Int) (t : Tok) (s : Shared) (Q : EV) (E : EV), Q (.int (g i) s.toks) { s with toks := s.toks + 1 } -> wpAny (model X.prog X.w) X.A (f (.int i t)) Q E s) :
  UnR X f (rU fun i => .int (g i)) := by
 intro pins s σ H x v Q I rx h
 obtain ⟨i, rfl, q⟩ := h
 obtain ⟨t, rfl⟩ := rx
 exact rule i t s _ _ ⟨.int (g i), H, I.tok _, ⟨_, rfl⟩, q⟩
theorem rF : UnR X (unaryOp .USub) (rU fun i => .int (-i)) := unI fun _ _ _ _ _ q => neg_int q
end
def Up : V -> V -> Bool
 | .non, .non => true | .non, .int _ => true | .int _, .non => true | .non, .bl _ => true | .bl _, .non => true | .non, .str _ => true | .str _, .non => true
 | .int _, .int _ => true | .bl _, .bl _ => true | .str _, .str _ => true | .byt _, .byt _ => true
 | .int _, .str _ => true | .str _, .int _ => true | .bl _, .str _ => true | .str _, .bl _ => true
 | _, _ => false
def rEq : R2 := fun x y H Q => Up x y = true /\ Q (.bl (decide (x = y))) H
def rNe : R2 := fun x y H Q => Up x y = true /\ Q (.bl (!decide (x = y))) H
theorem mL {i j : Int} : decide (V.int i = V.int j) = (i == j) := by
 rw [Bool.eq_iff_iff]
 simp
theorem HX {i j : Bool} : decide (V.bl i = V.bl j) = (i == j) := by
 rw [Bool.eq_iff_iff]
 simp
theorem jt {i j : Str} : decide (V.str i = V.str j) = (i == j) := by
 rw [Bool.eq_iff_iff]
 simp
theorem BW {i j : Array UInt8} : decide (V.byt i = V.byt j) = (i.toList == j.toList) := by
 rw [Bool.eq_iff_iff]
 cases i
 cases j
 simp
section
variable {X : Cx} {a b c : Expr} {ta tb tc : TE} {pos : Pos}
theorem bG {pins : OP} {σ : St} {H : Hp} {s : Shared} {Q : VK} {k k' : Bool} (I : Inv X pins σ H s) (q : Q (.bl k) H) (e : k = k') : EP X pins σ Q (.bool k') s := by
 subst e
 exact ⟨.bl k, H, I, rfl, q⟩
theorem bw : OpR X (compareOp .Eq) rEq := by
 intro pins s σ H x y v u Q I rx ry h
 obtain ⟨hs, q⟩ := h
 cases x with
 | non =>
  cases rx
  cases y with
  | non => cases ry; exact PySem.EqNone.eq_none_none (bG I q Z2)
  | bl j => cases ry; exact PySem.EqNone.eq_none_bool (bG I q Z2)
  | int j => obtain ⟨t', rfl⟩ := ry; exact PySem.EqNone.eq_none_int (bG I q Z2)
  | str j => obtain ⟨t', rfl⟩ := ry; exact PySem.EqNone.eq_none_str (bG I q Z2)
  | _ => exact absurd (show false = true from hs) Bool.false_ne_true
 | bl i =>
  cases rx
  cases y with
  | non => cases ry; exact PySem.EqNone.eq_bool_none (bG I q Z2)
  | bl j => cases ry; exact eq_bool (bG I q HX)
  | str j => obtain ⟨t', rfl⟩ := ry; exact PySem.EqMixed.eq_bool_str (bG I q Z2)
  | _ => exact absurd (show false = true from hs) Bool.false_ne_true
 | int i =>
  obtain ⟨t, rfl⟩ := rx
  cases y with
  | non => cases ry; exact PySem.EqNone.eq_int_none (bG I q Z2)
  | int j => obtain ⟨t', rfl⟩ := ry; exact eq_int (bG I q mL)
  | str j => obtain ⟨t', rfl⟩ := ry; exact PySem.EqMixed.eq_int_str (bG I q Z2)
  | _ => exact absurd (show false = true from hs) Bool.false_ne_true
 | str i =>
  obtain ⟨t, rfl⟩ := rx
  cases y with
  | non => cases ry; exact PySem.EqNone.eq_str_none (bG I q Z2)
  | bl j => cases ry; exact PySem.EqMixed.eq_str_bool (bG I q Z2)
  | int j => obtain ⟨t', rfl⟩ := ry; exact PySem.EqMixed.eq_str_int (bG I q Z2)
  | str j => obtain ⟨t', rfl⟩ := ry; exact eq_str (bG I q jt)
  | _ => exact absurd (show false = true from hs) Bool.false_ne_true
 | byt i =>
  obtain ⟨t, rfl⟩ := rx
  cases y with
  | byt j => obtain ⟨t', rfl⟩ := ry; exact PySem.W.eq_bytes (bG I q BW)
  | _ => exact absurd (show false = true from hs) Bool.false_ne_true
 | _ => cases y <;> exact absurd (show false = true from hs) Bool.false_ne_true
theorem m8 : OpR X (compareOp .NotEq) rNe := by
 intro pins s σ H x y v u Q I rx ry h
 obtain ⟨hs, q⟩ := h
 cases x with
 | non =>
  cases rx
  cases y with
  | non => cases ry; exact PySem.EqNone.ne_none_none (bG I q Z2)
  | bl j => cases ry; exact PySem.EqNone.ne_none_bool (bG I q Z2)
  | int j => obtain ⟨t', rfl⟩ := ry; exact PySem.EqNone.ne_none_int (bG I q Z2)
  | str j => obtain ⟨t', rfl⟩ := ry; exact PySem.EqNone.ne_none_str (bG I q Z2)
  | _ => exact absurd (show false = true from hs) Bool.false_ne_true
 | bl i =>
  cases rx
  cases y with
  | non => cases ry; exact PySem.EqNone.ne_bool_none (bG I q Z2)
  | bl j => cases ry; exact ne_bool (bG I q (congrArg not HX))
  | str j => obtain ⟨t', rfl⟩ := ry; exact PySem.EqMixed.ne_bool_str (bG I q Z2)
  | _ => exact absurd (show false = true from hs) Bool.false_ne_true
 | int i =>
  obtain ⟨t, rfl⟩ := rx
  cases y with
  | non => cases ry; exact PySem.EqNone.ne_int_none (bG I q Z2)
  | int j => obtain ⟨t', rfl⟩ := ry; exact ne_int (bG I q (congrArg not mL))
  | str j => obtain ⟨t', rfl⟩ := ry; exact PySem.EqMixed.ne_int_str (bG I q Z2)
  | _ => exact absurd (show false = true from hs) Bool.false_ne_true
 | str i =>
  obtain ⟨t, rfl⟩ := rx
  cases y with
  | non => cases ry; exact PySem.EqNone.ne_str_none (bG I q Z2)
  | bl j => cases ry; exact PySem.EqMixed.ne_str_bool (bG I q Z2)
  | int j => obtain ⟨t', rfl⟩ := ry; exact PySem.EqMixed.ne_str_int (bG I q Z2)
  | str j => obtain ⟨t', rfl⟩ := ry; exact ne_str (bG I q (congrArg not jt))
  | _ => exact absurd (show false = true from hs) Bool.false_ne_true
 | byt i =>
  obtain ⟨t, rfl⟩ := rx
  cases y with
  | byt j => obtain ⟨t', rfl⟩ := ry; exact PySem.W.ne_bytes (bG I q (congrArg not BW))
  | _ => exact absurd (show false = true from hs) Bool.false_ne_true
 | _ => cases y <;> exact absurd (show false = true from hs) Bool.false_ne_true
theorem GP : OpR X (compareOp .Lt) (rI0 fun i j => .bl (decide (i < j))) := Lr fun _ _ _ _ _ _ _ q => lt_int q
theorem Ca : OpR X (compareOp .LtE) (rI0 fun i j => .bl (decide (i <= j))) := Lr fun _ _ _ _ _ _ _ q => le_int q
theorem jk : OpR X (compareOp .Gt) (rI0 fun i j => .bl (decide (j < i))) := Lr fun _ _ _ _ _ _ _ q => gt_int q
theorem qT : OpR X (compareOp .In) (fun x y H Q => ∃ i j, x = .str i /\ y = .str j /\ Q (.bl (!(Builtin.Str.occurrences j i 0 j.length 1).isEmpty)) H) := by
 intro pins s σ H x y v u Q I rx ry h
 obtain ⟨i, j, rfl, rfl, q⟩ := h
 obtain ⟨t, rfl⟩ := rx
 obtain ⟨t', rfl⟩ := ry
 exact in_str (bG I q rfl)
theorem yE : OpR X (compareOp .Is) (fun x y H Q => y = .non /\ Q (.bl (decide (x = .non))) H) := by
 intro pins s σ H x y v u Q I rx ry h
 obtain ⟨rfl, q⟩ := h
 cases ry
 refine is_none_gen (bG I q ?_)
 cases x <;> first
  | (cases rx; rfl)
  | (obtain ⟨t, rfl⟩ := rx; rfl)
theorem Ip : OpR X (compareOp .IsNot) (fun x y H Q => y = .non /\ Q (.bl (!decide (x = .non))) H) := by
 intro pins s σ H x y v u Q I rx ry h
 obtain ⟨rfl, q⟩ := h
 cases ry
 refine isnot_none_gen (bG I q ?_)
 cases x <;> first
  | (cases rx; rfl)
  | (obtain ⟨t, rfl⟩ := rx; rfl)
theorem xR : OpR X (compareOp .NotIn) (fun x y H Q => ∃ i j, x = .str i /\ y = .str j /\ Q (.bl (!(!(Builtin.Str.occurrences j i 0 j.length 1).isEmpty))) H) := by
 intro pins s σ H x y v u Q I rx ry h
 obtain ⟨i, j, rfl, rfl, q⟩ := h
 obtain ⟨t, rfl⟩ := rx
 obtain ⟨t', rfl⟩ := ry
 exact notIn_str (bG I q rfl)
theorem aH (b : Expr) {op : CmpOp} (h : op ≠ .In := by decide) (h2 : op ≠ .NotIn := by decide) : behindInMarks op b = false := by
 have e1 : (op == CmpOp.In) = false := by cases op <;> first | rfl | exact absurd rfl h
 have e2 : (op == CmpOp.NotIn) = false := by cases op <;> first | rfl | exact absurd rfl h2
 cases b <;> simp [behindInMarks, e1, e2]
theorem bJ {op : CmpOp} {r : R2} (ho : OpR X (compareOp op) r) (ha : PE X a ta) (hb : PE X b tb) (hm : behindInMarks op b = false) : PE X (.Compare a [op] [b] pos) (tOp r ta tb) := by
 intro pins s σ H Q I h
 exact wpAny_Compare1 (K6 ha hb I h fun v u s2 x y H2 I2 rx ry q => ho pins s2 σ H2 x y v u Q I2 rx ry q) hm
def QV (t : TE) : TT := fun σ H Q => t σ H fun x H' => ∃ k, x = .bl k /\ Q k H'
theorem aG {op : CmpOp} {r : R2} (ho : OpR X (compareOp op) r) (ha : PE X a ta) (hb : PE X b tb) (hm : behindInMarks op b = false) : PT X (.Compare a [op] [b] pos) (QV (tOp r ta tb)) := by
 intro pins s σ H Q I h
 refine wpAny_isTrue_Compare1 (thn (ha pins s σ H _ I h) fun v s1 ⟨x, H1, I1, r1, q1⟩ => thn (hb pins s1 σ H1 _ I1 q1) fun u s2 ⟨y, H2, I2, r2, q2⟩ =>
  thn (ho pins s2 σ H2 x y v u _ I2 r1 r2 q2) fun c s3 ⟨z, H3, I3, r3, k, e, q3⟩ => ?_) hm
 subst e
 cases r3
 exact wpAny_truthy_bool ⟨H3, I3, q3⟩
def KR (r r' : R2) (ta tb tc : TE) : TE := fun σ H Q => ta σ H fun x H1 => tb σ H1 fun y H2 => r x y H2 fun z H3 => ∃ k, z = .bl k /\
 (if k = true then tc σ H3 fun w' H4 => r' y w' H4 Q else Q (.bl false) H3)
theorem G3 {op op' : CmpOp} {r r' : R2} (ho : OpR X (compareOp op) r) (ho' : OpR X (compareOp op') r') (ha : PE X a ta) (hb : PE X b tb) (hc : PE X c tc)
  (hm : lastMarks [op, op'] [b, c] = false := by with_unfolding_all rfl) : PE X (.Compare a [op, op'] [b, c] pos) (KR r r' ta tb tc) := by
 intro pins s σ H Q I h
 refine Compare_chain (thn (ha pins s σ H _ I h) fun v s1 ⟨x, H1, I1, r1, q1⟩ => chain_link (thn (hb pins s1 σ H1 _ I1 q1) fun u s2 ⟨y, H2, I2, r2, q2⟩ =>
  thn (ho pins s2 σ H2 x y v u _ I2 r1 r2 q2) fun d s3 ⟨z, H3, I3, r3, k, e, q3⟩ => ?_)) hm
 subst e
 cases r3
 refine wpAny_truthy_bool ?_
 cases k with
 | false => exact ite_ff ⟨.bl false, H3, I3, rfl, q3⟩
 | true => exact ite_tt (chain_last (thn (hc pins s3 σ H3 _ I3 q3) fun w' s4 ⟨z', H4, I4, r4, q4⟩ => ho' pins s4 σ H4 y z' u w' Q I4 r2 r4 q4))
theorem vf : (sizeLine : Nat) < 2 ^ 63 := by rw [sizeLine_eq]; decide
theorem aN : OpR X (binaryOp .Add) (fun x y H Q => ∃ i j, x = .str i /\ y = .str j /\ i.length + j.length <= sizeLine /\ Q (.str (i ++ j)) H) := by
 intro pins s σ H x y v u Q I rx ry h
 obtain ⟨i, j, rfl, rfl, hz, q⟩ := h
 obtain ⟨t, rfl⟩ := rx
 obtain ⟨t', rfl⟩ := ry
 exact add_str (fun t' tk => ⟨.str (i ++ j), H, I.tok _, ⟨_, rfl⟩, q⟩) hz
theorem vals1 {x : V} {us : List Value} (r : Vals [x] us) : ∃ u, us = [u] /\ RelV x u := by
 cases r with
 | cons r1 r2 => cases r2; exact ⟨_, rfl, r1⟩
theorem vals2 {x y : V} {us : List Value} (r : Vals [x, y] us) : ∃ u w', us = [u, w'] /\ RelV x u /\ RelV y w' := by
 cases r with
 | cons r1 r2 =>
  cases r2 with
  | cons r3 r4 => cases r4; exact ⟨_, _, rfl, r1, r3⟩
theorem DR (hc : X.calm = true) : fY X (.builtin "max") (fun xs H Q => ∃ i j, xs = [.int i, .int j] /\ Q (.int (if j > i then j else i)) H) := by
 intro pins s σ H xs us Q I r h
 obtain ⟨i, j, rfl, q⟩ := h
 obtain ⟨u, w', rfl, ⟨t, rfl⟩, ⟨t', rfl⟩⟩ := vals2 r
 refine max_two_ints (I.ok.hd hc) fun h' tk k => ⟨_, H, I.kept k, ?_, q⟩
 by_cases hj : j > i
 ·rw [if_pos hj, if_pos hj]; exact ⟨_, rfl⟩
 ·rw [if_neg hj, if_neg hj]; exact ⟨_, rfl⟩
theorem Ek (hc : X.calm = true) : fY X (.builtin "min") (fun xs H Q => ∃ i j, xs = [.int i, .int j] /\ Q (.int (if j < i then j else i)) H) := by
 intro pins s σ H xs us Q I r h
 obtain ⟨i, j, rfl, q⟩ := h
 obtain ⟨u, w', rfl, ⟨t, rfl⟩, ⟨t', rfl⟩⟩ := vals2 r
 refine min_two_ints (I.ok.hd hc) fun h' tk k => ⟨_, H, I.kept k, ?_, q⟩
 by_cases hj : j < i
 ·rw [if_pos hj, if_pos hj]; exact ⟨_, rfl⟩
 ·rw [if_neg hj, if_neg hj]; exact ⟨_, rfl⟩
theorem eX : fY X (.type "int") (fun xs H Q => (∃ i, xs = [.int i] /\ Q (.int i) H) \/ ∃ k, xs = [.bl k] /\ Q (.int (if k then 1 else 0)) H) := by
 intro pins s σ H xs us Q I r h
 rcases h with ⟨i, rfl, q⟩ | ⟨k, rfl, q⟩
 ·obtain ⟨u, rfl, t, rfl⟩ := vals1 r
  exact call_int_int ⟨.int i, H, I, ⟨_, rfl⟩, q⟩
 ·obtain ⟨u, rfl, r1⟩ := vals1 r
  cases r1
  exact call_int_bool ⟨.int (if k then 1 else 0), H, I.tok _, ⟨_, rfl⟩, q⟩
theorem qu : fY X (.type "str") (fun xs H Q => ∃ i, xs = [.int i] /\ i.natAbs.log2 < 1920 /\ Q (.str (toString i)) H) := by
 intro pins s σ H xs us Q I r h
 obtain ⟨i, rfl, hz, q⟩ := h
 obtain ⟨u, rfl, t, rfl⟩ := vals1 r
 exact PySem.P.str_of_int hz ⟨.str _, H, I.tok _, ⟨_, rfl⟩, q⟩
end
structure Al (h : Heap) (x dx C : Addr) (mA : MG) : Prop where
 obj : h.get? x = some (instObj C dx)
 ns : h.Ns1 dx mA
 ne : dx ≠ x
theorem qP {h : Heap} {dx : Addr} {mA : MG} (n : h.Ns1 dx mA) : ∃ od, h.get? dx = some od /\ ∀ name, lookIn name od = some (mA name) := by
 obtain ⟨o, es, ep, ho, hd, hk, _, hm⟩ := n
 refine ⟨o, ho, fun name => ?_⟩
 have e := hm name
 unfold nsFind findBy at e
 rw [<- Array.find?_toList] at e
 unfold lookIn
 rw [hd]
 dsimp only
 split
 ·rename_i y q
  rw [q] at e
  exact congrArg some e
 ·rename_i q
  rw [q] at e
  have a : es.toList.any (·.refKey) = false := by
   rw [any_eq_false]
   intro y hy
   obtain ⟨z, t, hkey⟩ := hk y (Array.mem_toList_iff.mp hy)
   simp [DictEntry.refKey, hkey]
  have a' : ¬ es.toList.any (·.refKey) = true := by rw [a]; exact Bool.false_ne_true
  rw [if_neg a']
  exact congrArg some e
theorem Al.look {h : Heap} {x dx C : Addr} {mA : MG} (I : Al h x dx C mA) : ∃ od, PySem.W.InstAt h x (instObj C dx) C (some od) /\ ∀ name, lookIn name od = some (mA name) :=
 let ⟨od, ho, hl⟩ := qP I.ns
 ⟨od, ⟨I.obj, rfl, rfl, ho⟩, hl⟩
section
variable {prog : Program} {w : World} {A : Around} {E : EV} {s : Shared} {K : Frag} {x dx C f : Addr} {mA : MG} {name : Str} {v : Value}
theorem Im {expr : Bool} {Q : EV} (X : K.In s.heap) (I : Al s.heap x dx C mA) (hg : plainGet K C name = true) (hh : hasDictIn K C = true)
  (ha : findIn K (.ref C) name = some none) (hv : mA name = some v) (hv' : handedIn v = true) (h : Q v { s with toks := s.toks + 1 }) :
  wpAny (model prog w) A (getAttr (.ref x) name expr) Q E s := by
 obtain ⟨od, J, hl⟩ := I.look
 exact PySem.W.get_value X J (plainGet_of hg).1 (PySem.W.findObj_own hh ha rfl (by rw [hl, hv])) hv' h
theorem HB {pl : Sem Bool} {Q : Value × List Value -> Shared -> Prop} (X : K.In s.heap) (I : Al s.heap x dx C mA) (hg : plainGet K C name = true)
  (hf : findIn K (.ref C) name = some (some (.ref f))) (ht : isFn K (.ref f) = true) (hv : mA name = none) (h : Q (.ref f, [.ref x]) s) :
  wpAny (model prog w) A (getMethod (.ref x) name pl) Q E s := by
 obtain ⟨od, J, hl⟩ := I.look
 exact PySem.W.method_fn X J (plainGet_of hg).1 (plainGet_of hg).2 hf (beq_iff_eq.mp ht) (by show (lookIn name od).map (·.isSome) = some false; rw [hl, hv]; rfl) h
theorem JF {ns : List Str} {Q : Unit -> Shared -> Prop} (X : K.In s.heap) (I : Al s.heap x dx C mA)
  (hs : findIn K (.ref C) "__setattr__" = some (some (.builtin "object.__setattr__"))) (hp : plainOver K C = true) (ht : takerIn K C name = some none) (hh : hasDictIn K C = true)
  (hw : PySem.Within mA ns) (hsz : ns.length <= sizeLine)
  (h : ∀ h', Al h' x dx C (fun y => if y = name then some v else mA y) -> Heap.SameBut dx s.heap h' -> Q () { s with heap := h', toks := s.toks + 2 }) :
  wpAny (model prog w) A (setAttr (.ref x) name v) Q E s := by
 obtain ⟨od, J, hl⟩ := I.look
 refine PySem.W.set_plain X J hs (PySem.W.osa_open (s := { s with toks := s.toks + 1 }) (r := none) X J hp ht fun b => ?_)
 obtain ⟨cd, hc, hd'⟩ := PySem.W.any_some hh
 have hx : s.heap.get? x = some ⟨.ref C, some dx, .plain, #[]⟩ := I.obj
 refine wpAny_bind (wpAny_pure (wpAny_bind (wpAny_bind (wpAny_loadPart hx (wpAny_bind (PySem.W.Looks.here (s := { s with toks := s.toks + 1 }) (PySem.W.looks_clsIn X hc) ?_))))))
 rw [hd']
 refine wpAny_pure (a := some dx) (wpAny_bind (wpAny_pure (wpAny_bind ?_)))
 refine wpAny_nsSet1 (s := { s with toks := s.toks + 1 }) I.ns fun h' hn2 hs2 => ?_
 obtain ⟨oD, esD, epD, hoD, hdD, hcD⟩ := hn2.count (PySem.Within.cons name v hw)
 refine wpAny_bind (wpAny_lookBehind hoD (by rw [hdD]; exact pastItsLine_dict (le_trans hcD (by rw [length_cons]; omega))) ?_)
 exact wpAny_pure (h _ ⟨(hs2.2 _ (Ne.symm I.ne)).trans I.obj, hn2, I.ne⟩ hs2)
theorem Hn {R : Result -> Shared -> Prop} {vs : List Value} {kw : List (Str × Value)} (X : K.In s.heap) (hm : makesIn K C = true)
  (hi : findIn K (.ref C) "__init__" = some (some (.ref f))) (hf : typeIn K (.ref f) = some (.type "function"))
  (h : codeAny (model prog w) (A.under (.builtin "type.__call__" ⟨.ref C :: vs, kw⟩)) (.call (.ref f) ⟨.ref (s.heap.objs.size + 1) :: vs, kw⟩) (PySem.W.InitBack (s.heap.objs.size + 1) R)
   { s with heap := (s.heap.push emptyDict).push (instObj C s.heap.objs.size) }) :
  codeAny (model prog w) A (.call (.ref C) ⟨vs, kw⟩) R s := by
 obtain ⟨hh, g, d, t, os⟩ := s
 exact PySem.W.make_core (PySem.W.makes_of X hm) (PySem.W.looks_findIn X hi) (fun self => PySem.W.bind_fn X self hf) (.inl rfl) h
end
def lG (f : Str) (v : V) : List (Str × V) -> List (Str × V)
 | [] => [(f, v)]
 | (g, x) :: r => if g = f then (g, v) :: r else (g, x) :: lG f v r
theorem jr (f g : Str) (v : V) : ∀ fs : List (Str × V), (lG f v fs).lookup g = if g = f then some v else fs.lookup g
 | [] => by
  show List.lookup g [(f, v)] = _
  by_cases h : g = f
  ·have hb : (g == f) = true := beq_iff_eq.mpr h
   simp only [List.lookup, hb, if_pos h]
  ·have hb : (g == f) = false := beq_eq_false_iff_ne.mpr h
   simp only [List.lookup, hb, if_neg h]
 | (k, x) :: r => by
  have ih := jr f g v r
  rw [show lG f v ((k, x) :: r) = (if k = f then (k, v) :: r else (k, x) :: lG f v r) from rfl]
  by_cases hk : k = f
  ·rw [if_pos hk]
   by_cases h : g = k
   ·have hb : (g == k) = true := beq_iff_eq.mpr h
    simp only [List.lookup, hb, if_pos (h.trans hk)]
   ·have hb : (g == k) = false := beq_eq_false_iff_ne.mpr h
    simp only [List.lookup, hb, if_neg (fun e : g = f => h (e.trans hk.symm))]
  ·rw [if_neg hk]
   by_cases h : g = k
   ·have hb : (g == k) = true := beq_iff_eq.mpr h
    simp only [List.lookup, hb, if_neg (fun e : g = f => hk (h.symm.trans e))]
   ·have hb : (g == k) = false := beq_eq_false_iff_ne.mpr h
    simp only [List.lookup, hb]
    exact ih
theorem rB (f : Str) (v : V) : ∀ fs : List (Str × V), f ∈ (lG f v fs).map (·.1) /\ ∀ g, g ∈ fs.map (·.1) -> g ∈ (lG f v fs).map (·.1)
 | [] => ⟨by simp [lG], fun g h => by simp at h⟩
 | (k, x) :: r => by
  obtain ⟨i1, i2⟩ := rB f v r
  rw [show lG f v ((k, x) :: r) = (if k = f then (k, v) :: r else (k, x) :: lG f v r) from rfl]
  by_cases hk : k = f
  ·rw [if_pos hk]
   subst hk
   exact ⟨Z2, fun g h => by simpa using h⟩
  ·rw [if_neg hk]
   refine ⟨?_, fun g h => ?_⟩
   ·rw [map_cons]
    exact mem_cons_of_mem _ i1
   ·rw [map_cons] at h ⊢
    rcases mem_cons.mp h with e | e
    ·exact mem_cons.mpr (.inl e)
    ·exact mem_cons_of_mem _ (i2 g e)
theorem nH (f : Str) (v : V) : ∀ fs : List (Str × V), (lG f v fs).length <= fs.length + 1
 | [] => by simp [lG]
 | (k, x) :: r => by
  have ih := nH f v r
  rw [show lG f v ((k, x) :: r) = (if k = f then (k, v) :: r else (k, x) :: lG f v r) from rfl]
  by_cases hk : k = f
  ·rw [if_pos hk, length_cons, length_cons]; omega
  ·rw [if_neg hk, length_cons, length_cons]; omega
theorem pB.some_of {v : V} {o : Option Value} (r : pB (some v) o) : ∃ u, o = some u /\ RelV v u := by
 cases o with
 | none => exact (show False from r).elim
 | some u => exact ⟨u, rfl, r⟩
theorem pB.none_of {o : Option Value} (r : pB none o) : o = none := by
 cases o with
 | none => rfl
 | some u => exact (show False from r).elim
theorem wI {v : V} {u : Value} (r : RelV v u) : handedIn u = true := by
 cases v with
 | non => cases (show u = Value.none from r); rfl
 | bl b => cases (show u = Value.bool b from r); rfl
 | int i => obtain ⟨t, e⟩ := (show ∃ t, u = Value.int i t from r); cases e; rfl
 | str x => obtain ⟨t, e⟩ := (show ∃ t, u = Value.str x t from r); cases e; rfl
 | byt b => obtain ⟨t, e⟩ := (show ∃ t, u = Value.bytes b t from r); cases e; rfl
 | flt b => obtain ⟨t, e⟩ := (show ∃ t, u = Value.float b t from r); cases e; rfl
 | ref a => cases (show u = Value.ref a from r); rfl
 | ty n => cases (show u = Value.type n from r); rfl
section
variable {P : Program} {w : World} {H H' : Hp} {h h' : Heap} {a C dx : Addr} {fs fs' : List (Str × V)}
theorem sX (hok : HOk P w H h) (e : H a = some (.ins C dx fs)) : ∃ mA, Al h a dx C mA /\ (∀ f, pB (fs.lookup f) (mA f)) /\ PySem.Within mA (fs.map (·.1)) /\ fs.length <= 1000 /\ H dx = some (.own a) := by
 obtain ⟨d, z, ne, ob, mA, n, r, q⟩ := (show cT P w H h a (.ins C dx fs) from hok a _ e)
 exact ⟨mA, ⟨ob, n, ne⟩, r, q, z, d⟩
end
structure Cls (K : Frag) (C : Addr) : Prop where
 pg : plainGet K C Str.empty = true
 hd : hasDictIn K C = true
 po : plainOver K C = true
 sa : findIn K (.ref C) "__setattr__" = some (some (.builtin "object.__setattr__"))
theorem Cls.get {K : Frag} {C : Addr} (c : Cls K C) (f : Str) : plainGet K C f = true := c.pg
def dB (K : Frag) (C : Addr) (f : Str) : Prop := findIn K (.ref C) f = some none
theorem dB.taker {K : Frag} {C : Addr} {f : Str} (n : dB K C f) : takerIn K C f = some none := by
 unfold takerIn
 rw [show findIn K (.ref C) f = some none from n]
 rfl
structure Meth (K : Frag) (C : Addr) (m : Str) (f : Addr) : Prop where
 at_ : findIn K (.ref C) m = some (some (.ref f))
 fn : isFn K (.ref f) = true
 kp : keepIn K (.ref f) = true
section
variable {X : Cx} {pins : OP} {σ : St} {H : Hp} {s : Shared} {a C dx : Addr} {fs : List (Str × V)} {f : Str} {v : V} {A : Around} {E : EV}
theorem Bd {b : Bool} {Q : EV} (I : Inv X pins σ H s) (e : H a = some (.ins C dx fs)) (c : Cls X.K C) (n : dB X.K C f) (l : fs.lookup f = some v)
  (h : ∀ u s', Inv X pins σ H s' -> RelV v u -> Q u s') : wpAny (model X.prog X.w) A (getAttr (.ref a) f b) Q E s := by
 obtain ⟨mA, O, r, _, _, _⟩ := sX I.hok e
 obtain ⟨u, hu, ru⟩ := pB.some_of (v := v) (o := mA f) (by rw [<- l]; exact r f)
 exact Im I.kIn O (c.get f) c.hd n hu (wI ru) (h u _ (I.tok _) ru)
theorem Bx {m : Str} {g : Addr} {pl : Sem Bool} {Q : Value × List Value -> Shared -> Prop} (I : Inv X pins σ H s) (e : H a = some (.ins C dx fs)) (c : Cls X.K C) (k : Meth X.K C m g) (l : fs.lookup m = none)
  (h : Q (.ref g, [.ref a]) s) : wpAny (model X.prog X.w) A (getMethod (.ref a) m pl) Q E s := by
 obtain ⟨mA, O, r, _, _, _⟩ := sX I.hok e
 have hn : mA m = none := pB.none_of (by rw [<- l]; exact r m)
 exact HB I.kIn O (c.get m) k.at_ k.fn hn h
theorem Bq {y : V} {u : Value} {Q : Unit -> Shared -> Prop} (I : Inv X pins σ H s) (e : H a = some (.ins C dx fs)) (c : Cls X.K C) (n : dB X.K C f) (hl : fs.length < 1000) (ry : RelV y u)
  (h : ∀ s', Inv X pins σ (upd H a (.ins C dx (lG f y fs))) s' -> Q () s') : wpAny (model X.prog X.w) A (setAttr (.ref a) f u) Q E s := by
 obtain ⟨mA, O, r, wi, _, ho⟩ := sX I.hok e
 have hz : (fs.map (·.1)).length <= sizeLine := by rw [length_map, sizeLine_eq]; omega
 refine JF I.kIn O c.sa c.po n.taker c.hd wi hz fun h' O' sb => h _ ?_
 have hd : ∃ o, h'.get? dx = some o := let ⟨o, _, _, e', _⟩ := O'.ns; ⟨o, e'⟩
 refine I.write (x := a) (e := dx) (by rw [e]; exact True.intro) (.inr ho) (fun b q hb z => (sb.2 b hb).trans z) hd ?_
 refine ⟨by rw [aR O.ne]; exact ho, ?_, O.ne, O'.obj, _, O'.ns, fun g => ?_, fun g hg => ?_⟩
 ·have := nH f y fs; omega
 ·show pB ((lG f y fs).lookup g) (if g = f then some u else mA g)
  rw [jr]
  by_cases q : g = f
  ·rw [if_pos q, if_pos q]; exact ry
  ·rw [if_neg q, if_neg q]; exact r g
 ·by_cases q : g = f
  ·rw [q]; exact (rB f y fs).1
  ·refine (rB f y fs).2 g (wi g fun z => hg ?_)
   show (if g = f then some u else mA g) = none
   rw [if_neg q]; exact z
theorem Inv.made (I : Inv X pins σ H s) : Inv X pins σ (upd (upd H s.heap.objs.size (.own (s.heap.objs.size + 1))) (s.heap.objs.size + 1) (.ins C s.heap.objs.size []))
  { s with heap := (s.heap.push emptyDict).push (instObj C s.heap.objs.size) } := by
 have e1 : (s.heap.push emptyDict).get? s.heap.objs.size = some emptyDict := Heap.get?_push_size s.heap rfl
 have e2 : ((s.heap.push emptyDict).push (instObj C s.heap.objs.size)).get? (s.heap.objs.size + 1) = some (instObj C s.heap.objs.size) := by
  have := Heap.get?_push_size (s.heap.push emptyDict) (o := instObj C s.heap.objs.size) rfl
  rwa [Heap.size_push] at this
 have e3 : (s.heap.push emptyDict).Ns s.heap.objs.size (fun _ => none) := ⟨emptyDict, #[], _, e1, rfl, (fun e he => absurd he Z2), fun _ => rfl⟩
 have I1 := I.laid (a := s.heap.objs.size) (o := .own (s.heap.objs.size + 1)) (h' := s.heap.push emptyDict) (t' := s.toks) (fun b u q => Heap.get?_push_of_some _ q) (le_refl _) ⟨_, e1⟩
 refine I1.laid (a := s.heap.objs.size + 1) (o := .ins C s.heap.objs.size []) (t' := s.toks) (fun b u q => Heap.get?_push_of_some _ q) (le_of_eq (Heap.size_push _ _)) ?_
 have ne : s.heap.objs.size ≠ s.heap.objs.size + 1 := ne_of_lt (Nat.lt_succ_self _)
 refine ⟨by rw [aR ne, ao], zero_le _, ne, e2, fun _ => none, (Heap.Ns1.of_empty e3).at fun o q => Heap.get?_push_of_some _ q, fun _ => True.intro, fun y hy => absurd rfl hy⟩
theorem Dm {prog : Program} {w : World} {env : Env} {e : Expr} {f : Str} {pos : Pos} {s : Shared} {Q : EV} (hb : attributeBase e f env (eval e env) = eval e env)
  (h : wpAny (model prog w) A (eval e env) (fun o s₁ => wpAny (model prog w) A (getAttr o f true) Q E s₁) E s) : wpAny (model prog w) A (eval (.Attribute e f pos) env) Q E s :=
 Attribute_any_ h (by rw [arm_eval_Attribute, hb])
end
def Xp (K : Frag) (ta : TE) (f : Str) : TE := fun σ H Q => ta σ H fun x H1 => ∃ a C dx fs v, x = .ref a /\ H1 a = some (.ins C dx fs) /\ Cls K C /\ dB K C f /\ fs.lookup f = some v /\ Q v H1
def Qq (K : Frag) (ta tv : TE) (f : Str) : TS := fun D σ H => tv σ H fun y H1 => ta σ H1 fun x H2 => ∃ a C dx fs, x = .ref a /\ H2 a = some (.ins C dx fs) /\ Cls K C /\ dB K C f /\ fs.length < 1000 /\
 D.nx σ (upd H2 a (.ins C dx (lG f y fs)))
section
variable {X : Cx} {o e value : Expr} {f : Str} {pos pos' tpos : Pos} {ta tv : TE}
theorem bY (he : PE X e ta) (hb : attributeBase e f X.env (eval e X.env) = eval e X.env) : PE X (.Attribute e f pos) (Xp X.K ta f) := by
 intro pins s σ H Q I h
 refine Dm hb (thn (he pins s σ H _ I h) fun u s1 hz => ?_)
 obtain ⟨x, H1, I1, rx, a, C, dx, fs, v, ex, ea, c, n, l, q⟩ := hz
 subst ex
 obtain rfl : u = Value.ref a := rx
 exact Bd I1 ea c n l fun u' s2 I2 ru => ⟨v, H1, I2, ru, q⟩
theorem KZ (ha : PE X o ta) (hv : PE X value tv) (hs : swapsWith value (some (.Attribute o f pos')) pos.line X.env = pure false) : PS X (.Assign [.Attribute o f pos'] value pos) (Qq X.K ta tv f) := by
 intro pins s σ H D I h
 refine plainObj_wpAny_Assign_Attribute (thn (hv pins s σ H _ I h) fun u s1 ⟨y, H1, I1, ry, q⟩ => thn (ha pins s1 σ H1 _ I1 q) fun ov s2 hz => ?_) hs
 obtain ⟨x, H2, I2, rx, a, C, dx, fs, ex, ea, c, n, l, q2⟩ := hz
 subst ex
 obtain rfl : ov = Value.ref a := rx
 exact Bq I2 ea c n l ry fun s3 I3 => ⟨σ, _, I3, q2⟩
end
section
variable {X : Cx} {pins : OP} {σ : St} {H : Hp} {s : Shared} {A : Around} {E : EV} {Q : EV} {c : Value} {b : Bool}
inductive nP (K : Frag) (H : Hp) : V -> Value -> Prop where
 | non : nP K H .non (.type "NoneType")
 | bl (x : Bool) : nP K H (.bl x) (.type "bool")
 | int (i : Int) : nP K H (.int i) (.type "int")
 | str (x : Str) : nP K H (.str x) (.type "str")
 | flt (x : UInt64) : nP K H (.flt x) (.type "float")
 | lst {a : Addr} {xs : List V} (e : H a = some (.lst xs)) : nP K H (.ref a) (.type "list")
 | frz {a : Addr} {o : Obj} {xs : List V} (e : H a = some (.frz o (.lst xs))) : nP K H (.ref a) (.type "list")
 | tup {a : Addr} {xs : List V} (e : H a = some (.tup xs)) : nP K H (.ref a) (.type "tuple")
 | dK {a : Addr} {kvs : List (Key × V)} (e : H a = some (.dK kvs)) : nP K H (.ref a) (.type "dict")
 | dT {a : Addr} {kvs : List (List Key × V)} (e : H a = some (.dT kvs)) : nP K H (.ref a) (.type "dict")
 | ins {a C dx : Addr} {fs : List (Str × V)} (e : H a = some (.ins C dx fs)) (cl : Cls K C) (ha : findIn K (.ref C) "__class__" = some (some (.builtin "object.__class__")))
   (hn : specialIn K (.builtin "object.__class__") "__get__" = some (some (.builtin "getset_descriptor.__get__"))) (htk : takesIn K (.builtin "object.__class__") = some true)
   (hm : mroIn K C (.type "object") = some true) : nP K H (.ref a) (.ref C)
theorem wR {x : V} {u t : Value} (I : Inv X pins σ H s) (rx : RelV x u) (ty : nP X.K H x t) (e : kitOne X.K t c = some b) (h : ∀ tk, Q (.bool b) { s with toks := tk }) :
  wpAny (model X.prog X.w) A (call (.builtin "isinstance") [u, c]) Q E s := by
 cases ty with
 | non => cases (show u = Value.none from rx); exact kia_one PySem.W.kitx_none I.kIn True.intro e (fun z => nomatch z) h
 | bl y => cases (show u = Value.bool y from rx); exact kia_one PySem.W.kitx_bool I.kIn True.intro e (fun z => nomatch z) h
 | int i => obtain ⟨t, q⟩ := (show ∃ t, u = Value.int i t from rx); cases q; exact kia_one PySem.W.kitx_int I.kIn True.intro e (fun z => nomatch z) h
 | str y => obtain ⟨t, q⟩ := (show ∃ t, u = Value.str y t from rx); cases q; exact kia_one PySem.W.kitx_str I.kIn True.intro e (fun z => nomatch z) h
 | flt y => obtain ⟨t, q⟩ := (show ∃ t, u = Value.float y t from rx); cases q; exact kia_one PySem.W.kitx_float I.kIn True.intro e (fun z => nomatch z) h
 | @lst a xs ea =>
  cases (show u = Value.ref a from rx)
  obtain ⟨_, _, n, _, h1⟩ := (show cT X.prog X.w H s.heap a (.lst xs) from I.hok a _ ea)
  exact kia_one kitx_list I.kIn ⟨_, h1, rfl⟩ e (fun z => nomatch z) h
 | @frz a ob xs ea =>
  cases (show u = Value.ref a from rx)
  obtain ⟨_, _, _, n, _, h1⟩ := (show cT X.prog X.w H s.heap a (.frz ob (.lst xs)) from I.hok a _ ea)
  exact kia_one kitx_list I.kIn ⟨_, h1, rfl⟩ e (fun z => nomatch z) h
 | @tup a xs ea =>
  cases (show u = Value.ref a from rx)
  obtain ⟨_, _, _, p⟩ := (show cT X.prog X.w H s.heap a (.tup xs) from I.hok a _ ea)
  obtain ⟨o, h1, h2, _⟩ := p
  exact kia_one PySem.W.kitx_tuple I.kIn ⟨o, h1, h2⟩ e (fun z => nomatch z) h
 | @dK a kvs ea =>
  cases (show u = Value.ref a from rx)
  obtain ⟨_, _, vs, _, p⟩ := (show cT X.prog X.w H s.heap a (.dK kvs) from I.hok a _ ea)
  obtain ⟨o, es, ep, h1, h2, _⟩ := p
  exact kia_one kitx_dict I.kIn ⟨o, h1, h2.1⟩ e (fun z => nomatch z) h
 | @dT a kvs ea =>
  cases (show u = Value.ref a from rx)
  obtain ⟨_, _, xs, _, o, es, ep, h1, h2, _⟩ := (show cT X.prog X.w H s.heap a (.dT kvs) from I.hok a _ ea)
  exact kia_one kitx_dict I.kIn ⟨o, h1, h2.1⟩ e (fun z => nomatch z) h
 | @ins a C dx fs ea cl ha hn htk hm =>
  cases (show u = Value.ref a from rx)
  obtain ⟨mA, O, _⟩ := sX I.hok ea
  obtain ⟨od, J, _⟩ := O.look
  exact kia_one (PySem.W.kitx_own (cl.get _) cl.hd ha hn htk hm) I.kIn J e (fun z => nomatch z) h
end
structure bh (k : Nat) (A : Around) : Prop where
 hd : A.handled = none
 dp : A.depth + 3 * k + 5 < recursionLimit
 un : A.units + 16 * k + 200 < cLine
theorem bh.mono {j k : Nat} {A : Around} (r : bh k A) (h : j <= k) : bh j A := ⟨r.hd, by have := r.dp; omega, by have := r.un; omega⟩
theorem bh.deeper {k : Nat} {A : Around} (r : bh (k + 1) A) (env : Env) : bh k (A.deeper env) :=
 ⟨r.hd, by have := r.dp; show A.depth + 1 + 3 * k + 5 < _; omega, by have := r.un; show A.units + 3 + 16 * k + 200 < _; omega⟩
theorem Bb {A : Around} {C : Addr} {us : List Value} {kw : List (Str × Value)} : (A.under (.builtin "type.__call__" ⟨.ref C :: us, kw⟩)).depth = A.depth + 1 := by
 first | rfl | simp [Around.under, Code.weight, Code.isCreation, Code.isGuard, Code.isCaller, Code.frames, Code.isFrame, guardIds]
theorem BP {A : Around} {C : Addr} {us : List Value} {kw : List (Str × Value)} : (A.under (.builtin "type.__call__" ⟨.ref C :: us, kw⟩)).units = A.units + 1 := by
 first | rfl | simp [Around.under, Code.cUnits, Code.frames, Code.isFrame]
theorem bh.make {k : Nat} {A : Around} (r : bh (k + 1) A) (C : Addr) (us : List Value) (kw : List (Str × Value)) : bh k (A.under (.builtin "type.__call__" ⟨.ref C :: us, kw⟩)) :=
 ⟨r.hd, by have := r.dp; rw [Bb]; omega, by have := r.un; rw [BP]; omega⟩
theorem bh.depth {k : Nat} {A : Around} (r : bh k A) : A.depth < recursionLimit := by have := r.dp; omega
theorem bh.units {k : Nat} {A : Around} (r : bh k A) : A.units + 64 < cLine := by have := r.un; omega
def Fb : TA := fun _ H Q => Q [] H
def tZ (ta : TE) (tr : TA) : TA := fun σ H Q => ta σ H fun x H1 => tr σ H1 fun xs H2 => Q (x :: xs) H2
section
variable {X : Cx} {e : Expr} {es : List Expr} {te : TE} {t : TA} {pos : Pos}
theorem ak : PA X [] Fb := fun _ _ _ _ H Q I h => Calls.spliced_nil ⟨[], H, I, .nil, h⟩
theorem aj (ha : PE X e te) (hr : PA X es t) (hs : starEach (e :: es) X.env = (false, eval e X.env) :: starEach es X.env := by rfl) : PA X (e :: es) (tZ te t) := by
 intro pos pins s σ H Q I h
 rw [hs]
 show wpAny _ _ (spliced ((false, eval e X.env) :: backTo pos (starEach es X.env))) _ _ s
 refine Calls.spliced_cons (thn (ha pins s σ H _ I h) fun u s1 ⟨x, H1, I1, r1, q1⟩ => ?_)
 exact thn (hr pos pins s1 σ H1 _ I1 q1) fun us s2 ⟨xs, H2, I2, r2, q2⟩ => ⟨x :: xs, H2, I2, .cons r1 r2, q2⟩
def X5 (t : TA) : TE := fun σ H Q => t σ H fun xs H1 => xs.length <= sizeLine /\ ∀ p, H1 p = none -> Q (.ref p) (upd H1 p (.tup xs))
def KY (t : TA) : TE := fun σ H Q => t σ H fun xs H1 => xs.length <= sizeLine /\ ∀ p, H1 p = none -> Q (.ref p) (upd H1 p (.lst xs))
theorem cR {x1} (h : PA X es t) : PE X (.Tuple es x1 pos) (X5 t) := by
 intro pins s σ H Q I hq
 refine wpAny_Tuple_spliced (thn (h pos pins s σ H _ I hq) fun us s1 ⟨xs, H1, I1, r, z, q⟩ => ⟨by rw [<- r.length]; exact z, ?_⟩)
 have hf : H1 s1.heap.objs.size = none := I1.hok.fresh (le_refl _)
 refine ⟨.ref s1.heap.objs.size, upd H1 s1.heap.objs.size (.tup xs), I1.laid (t' := s1.toks) (fun b u e => Heap.get?_push_of_some _ e) (le_refl _) ?_, rfl, q _ hf⟩
 exact ⟨z, us, r, ⟨_, Heap.get?_push_size _ rfl, rfl, _, rfl⟩⟩
theorem bC (h : PA X es t) : PE X (.List es pos) (KY t) := by
 intro pins s σ H Q I hq
 refine wpAny_List_spliced (thn (h pos pins s σ H _ I hq) fun us s1 ⟨xs, H1, I1, r, z, q⟩ => ⟨by rw [<- r.length]; exact z, ?_⟩)
 have hf : H1 s1.heap.objs.size = none := I1.hok.fresh (le_refl _)
 refine ⟨.ref s1.heap.objs.size, upd H1 s1.heap.objs.size (.lst xs), I1.laid (t' := s1.toks) (fun b u e => Heap.get?_push_of_some _ e) (le_refl _) ?_, rfl, q _ hf⟩
 exact ⟨z, us, 0, r, Heap.get?_push_size _ rfl⟩
end
abbrev Sp := List V -> Hp -> VK -> XK -> Prop
abbrev CXT := List Env -> Hp -> Shared -> XK -> Value -> Shared -> Prop
structure yI (P : Program) (w : World) (K : Frag) (mg : MG) (base : Heap) (A : Around) (outer : List Env) (s : Shared) (H : Hp) : Prop where
 frames : A.frames = some outer
 mod : Mod K mg base
 bs : ∀ b o, base.get? b = some o -> s.heap.get? b = some o /\ H b = none
 bsz : base.objs.size <= s.heap.objs.size
 funs : s.heap.FunFrames base outer
 frf : ∀ b ∈ frs outer, H b = none
 hok : HOk P w H s.heap
 bare : AllBare s.gens
def CE (outer : List Env) (P : Program) (w : World) (H : Hp) (s : Shared) (Q : VK) (u : Value) (s' : Shared) : Prop :=
 ∃ v H', s'.os = s.os /\ AllBare s'.gens /\ Un (frs outer) [] H H' s.heap s'.heap /\ HOk P w H' s'.heap /\ RelV v u /\ Q v H'
def CR (CX : CXT) (outer : List Env) (P : Program) (w : World) (H : Hp) (s : Shared) (Q : VK) (E : XK) (r : Result) (s' : Shared) : Prop :=
 match r with
 | .ok (.ret u) => CE outer P w H s Q u s'
 | .ok _ => False
 | .error e => CX outer H s E e s'
structure aO (P : Program) (w : World) (K : Frag) (mg : MG) (base : Heap) (CX : CXT) (k : Nat) (f : Addr) (fd : FuncData) (ps : List Str) (sp : Sp) : Prop where
 len : ∀ vs H Q E, sp vs H Q E -> vs.length = ps.length
 run : ∀ (A : Around) (outer : List Env) (s : Shared) (H : Hp) (args : Args) (us : List Value) (vs : List V) (Q : VK) (E : XK), bh k A -> yI P w K mg base A outer s H -> BindsTo s fd args (ps.zip us) -> Vals vs us -> sp vs H Q E ->
  codeAny (model P w) A (.call (.ref f) args) (CR CX outer P w H s Q E) s
theorem aO.mono {P : Program} {w : World} {K : Frag} {mg : MG} {base : Heap} {CX : CXT} {j k : Nat} {f : Addr} {fd : FuncData} {ps : List Str} {sp : Sp} (F : aO P w K mg base CX j f fd ps sp) (h : j <= k) :
  aO P w K mg base CX k f fd ps sp := ⟨F.len, fun A outer s H args us vs Q E hr => F.run A outer s H args us vs Q E (hr.mono h)⟩
theorem aO.imp {P : Program} {w : World} {K : Frag} {mg : MG} {base : Heap} {CX : CXT} {k : Nat} {f : Addr} {fd : FuncData} {ps : List Str} {sp sp' : Sp} (F : aO P w K mg base CX k f fd ps sp)
  (h : ∀ vs H Q E, sp' vs H Q E -> sp vs H Q E) : aO P w K mg base CX k f fd ps sp' :=
 ⟨fun vs H Q E q => F.len vs H Q E (h _ _ _ _ q), fun A outer s H args us vs Q E hr he hb hv hs => F.run A outer s H args us vs Q E hr he hb hv (h _ _ _ _ hs)⟩
theorem yI.make {P : Program} {w : World} {K : Frag} {mg : MG} {base : Heap} {A : Around} {outer : List Env} {s : Shared} {H : Hp} (e : yI P w K mg base A outer s H) (C : Addr) (us : List Value) (kw : List (Str × Value)) :
  yI P w K mg base (A.under (.builtin "type.__call__" ⟨.ref C :: us, kw⟩)) outer s H := ⟨by first | exact e.frames | (simpa [Around.under, Code.envs, Code.isFrame, pushEnvs] using e.frames), e.mod, e.bs, e.bsz, e.funs, e.frf, e.hok, e.bare⟩
section
variable {X : Cx} {pins : OP} {σ : St} {H : Hp} {s s' : Shared}
theorem Inv.env0 (I : Inv X pins σ H s) : yI X.prog X.w X.K X.mg X.base X.A X.stack s H :=
 ⟨I.ok.frames, I.ok.mod, I.bs, le_trans I.ok.bsz I.sz, I.stack, I.stkFree, I.hok, I.bare⟩
theorem Inv.after {Q : VK} {u : Value} (I : Inv X pins σ H s) (h : CE X.stack X.prog X.w H s Q u s') : EP X pins σ Q u s' := by
 obtain ⟨v, H', os, bare, un, hok, r, q⟩ := h
 obtain ⟨hh, g, d, t, os'⟩ := s'
 obtain rfl : os' = s.os := os
 exact ⟨v, H', I.call (h' := hh) (g' := g) (d' := d) (t' := t) (ch := []) un hok bare (fun b z => absurd z Z2), r, q⟩
end
def Cm (sp : Sp) (dvs : List V) (E : XK) (t : TA) : TE := fun σ H Q => t σ H fun vs H1 => sp (vs ++ dvs) H1 Q E
def Kg (C : Addr) (sp : Sp) (dvs : List V) (E : XK) (t : TA) : TE := fun σ H Q => t σ H fun vs H1 => ∀ x dx, H1 x = none -> H1 dx = none -> dx ≠ x ->
 sp (.ref x :: (vs ++ dvs)) (upd (upd H1 dx (.own x)) x (.ins C dx [])) (fun v H2 => v = .non /\ Q (.ref x) H2) E
def Binds (K : Frag) (fd : FuncData) (ps : List Str) (ds : List Value) : Prop :=
 ∀ (s : Shared) (us : List Value), K.In s.heap -> (us ++ ds).length = ps.length -> BindsTo s fd ⟨us, []⟩ (ps.zip (us ++ ds))
theorem Binds.all {K : Frag} {fd : FuncData} {ps : List Str} (h : ∀ us : List Value, us.length = ps.length -> bindArgs fd ⟨us, []⟩ = pure (ps.zip us)) : Binds K fd ps [] := fun s us _ hl => by
 rw [append_nil] at hl ⊢
 exact .of_eq (h us hl)
def nA (CX : CXT) (X : Cx) (E : XK) : Prop := ∀ (pins : OP) (σ : St) (H : Hp) (s : Shared) (e : Value) (s' : Shared), Inv X pins σ H s -> CX X.stack H s E e s' -> X.xe e s'
section
variable {X : Cx} {CX : CXT} {k : Nat} {f C : Addr} {fd : FuncData} {ps : List Str} {sp : Sp} {dvs : List V} {ds : List Value} {E : XK} {x m : Str} {p pos apos : Pos} {e o : Expr} {es : List Expr} {ta : TE} {t : TA}
theorem Hi {pins : OP} {σ : St} {H : Hp} {s : Shared} {Q : VK} {us : List Value} {vs : List V} (F : aO X.prog X.w X.K X.mg X.base CX k f fd ps sp) (hr : bh k X.A) (hb : Binds X.K fd ps ds) (hd : Vals dvs ds) (hx : nA CX X E)
  (I : Inv X pins σ H s) (r : Vals vs us) (h : sp (vs ++ dvs) H Q E) : wpAny (model X.prog X.w) X.A (call (.ref f) us) (EP X pins σ Q) X.xe s := by
 have r2 : Vals (vs ++ dvs) (us ++ ds) := r.append hd
 have hl : (us ++ ds).length = ps.length := by rw [<- r2.length]; exact F.len _ _ _ _ h
 refine wpAny_call (codeAny_mono (F.run X.A X.stack s H ⟨us, []⟩ (us ++ ds) (vs ++ dvs) Q E hr I.env0 (hb s us I.kIn hl) r2 h) fun r s' hq => ?_)
 cases r with
 | error e => exact hx pins σ H s e s' I hq
 | ok fl =>
  cases fl with
  | ret u => exact I.after hq
  | next => exact False.elim hq
  | brk => exact False.elim hq
  | cont => exact False.elim hq
theorem IV (F : aO X.prog X.w X.K X.mg X.base CX k f fd ps sp) (hr : bh k X.A) (hg : Gl X x) (hm : X.mg x = some (.ref f)) (hk : keepIn X.K (.ref f) = true) (hb : Binds X.K fd ps ds) (hd : Vals dvs ds) (hx : nA CX X E)
  (ha : PA X (e :: es) t) (hdb : (x == ("__debug__" : Str)) = false := by decide) (he : starEach (e :: es) X.env = (false, eval e X.env) :: starEach es X.env := by rfl) (hpl : (backTo pos (starEach es X.env)).any (·.1) = false := by rfl) :
  PE X (.Call (.Name x p) (e :: es) [] pos) (Cm sp dvs E t) := by
 intro pins s σ H Q I h
 refine wpAny_Call_Name_kw (fj I hg hm ?_ hdb)
 refine callWith_K (h₀ := X.base) I.ok.mod.kin hk (thn (ha pos pins s σ H _ I h) fun us s1 ⟨vs, H1, I1, r, q⟩ => ⟨I1.kIn, ?_⟩) he hpl
 exact Hi F hr hb hd hx I1 r q
structure Mk (K : Frag) (C f : Addr) : Prop where
 makes : makesIn K C = true
 init : findIn K (.ref C) "__init__" = some (some (.ref f))
 fn : isFn K (.ref f) = true
 kp : keepIn K (.ref C) = true
theorem GC {pins : OP} {σ : St} {H : Hp} {s : Shared} {Q : VK} {us : List Value} {vs : List V} (M : Mk X.K C f) (F : aO X.prog X.w X.K X.mg X.base CX k f fd ps sp) (hr : bh (k + 1) X.A) (hb : Binds X.K fd ps ds) (hd : Vals dvs ds)
  (hx : nA CX X E) (I : Inv X pins σ H s) (r : Vals vs us)
  (h : ∀ x dx, H x = none -> H dx = none -> dx ≠ x -> sp (.ref x :: (vs ++ dvs)) (upd (upd H dx (.own x)) x (.ins C dx [])) (fun v H2 => v = .non /\ Q (.ref x) H2) E) :
  wpAny (model X.prog X.w) X.A (call (.ref C) us) (EP X pins σ Q) X.xe s := by
 have hq := h (s.heap.objs.size + 1) s.heap.objs.size (I.hok.fresh (le_succ _)) (I.hok.fresh (le_refl _)) (ne_of_lt (Nat.lt_succ_self _))
 have I2 := Inv.made (C := C) I
 have r2 : Vals (V.ref (s.heap.objs.size + 1) :: (vs ++ dvs)) (Value.ref (s.heap.objs.size + 1) :: (us ++ ds)) := .cons rfl (r.append hd)
 have hl : (Value.ref (s.heap.objs.size + 1) :: us ++ ds).length = ps.length := by
  have e := r2.length
  rw [F.len _ _ _ _ hq] at e
  exact e.symm
 refine wpAny_call (Hn (f := f) I.kIn M.makes M.init (beq_iff_eq.mp M.fn) (codeAny_mono (F.run _ X.stack _ _ ⟨Value.ref (s.heap.objs.size + 1) :: us, []⟩ (Value.ref (s.heap.objs.size + 1) :: (us ++ ds)) _ _ E (hr.make C us [])
  (I2.env0.make C us []) (hb _ (Value.ref (s.heap.objs.size + 1) :: us) I2.kIn hl) r2 hq) fun r s' hq' => ?_))
 cases r with
 | error e => exact hx pins σ _ _ e s' I2 hq'
 | ok fl =>
  cases fl with
  | ret u =>
   obtain ⟨v, H', I3, rv, ev, q3⟩ := I2.after hq'
   subst ev
   exact ⟨rv, ⟨V.ref (s.heap.objs.size + 1), H', I3, rfl, q3⟩⟩
  | next => exact False.elim hq'
  | brk => exact False.elim hq'
  | cont => exact False.elim hq'
theorem Jd (M : Mk X.K C f) (F : aO X.prog X.w X.K X.mg X.base CX k f fd ps sp) (hr : bh (k + 1) X.A) (hg : Gl X x) (hm : X.mg x = some (.ref C)) (hb : Binds X.K fd ps ds) (hd : Vals dvs ds) (hx : nA CX X E)
  (ha : PA X (e :: es) t) (hdb : (x == ("__debug__" : Str)) = false := by decide) (he : starEach (e :: es) X.env = (false, eval e X.env) :: starEach es X.env := by rfl) (hpl : (backTo pos (starEach es X.env)).any (·.1) = false := by rfl) :
  PE X (.Call (.Name x p) (e :: es) [] pos) (Kg C sp dvs E t) := by
 intro pins s σ H Q I h
 refine wpAny_Call_Name_kw (fj I hg hm ?_ hdb)
 refine callWith_K (h₀ := X.base) I.ok.mod.kin M.kp (thn (ha pos pins s σ H _ I h) fun us s1 ⟨vs, H1, I1, r, q⟩ => ⟨I1.kIn, ?_⟩) he hpl
 exact GC M F hr hb hd hx I1 r q
end
section
variable {X : Cx} {CX : CXT} {k : Nat} {f C : Addr} {fd : FuncData} {ps ks : List Str} {sp : Sp} {E : XK} {x m : Str} {p pos apos kpos : Pos} {e o : Expr} {es : List Expr} {kws : List Keyword} {te ta : TE} {t tk : TA} {nm : Option Str}
variable {g : List Value -> List Value -> List Value} {gV : List V -> List V -> List V}
end
structure aK (N P : List Str) (sc : Scope) : Prop where
 kind : sc.kind = .function
 co : sc.isCoroutine = false
 gen : sc.isGenerator = false
 nd : N.Nodup
 pre : N.take P.length = P
 par : ∀ x ∈ P, sc.names.lookup x = some .local \/ sc.names.lookup x = some .cell
 nofree : ∀ y ∈ sc.names, y.2 ≠ .free
theorem vZ {kindOf : Str -> Option NameKind} {x : Str} : ∀ {binds : List (Str × Value)} {m : MG}, (∀ v, (x, v) ∉ binds) -> bindL kindOf binds m x = m x
 | [], _, _ => rfl
 | (n, v) :: r, m, h => by
  unfold bindL
  rw [vZ fun w hw => h w (mem_cons_of_mem _ hw)]
  split
  ·have : x ≠ n := by rintro rfl; exact h v mem_cons_self
   simp [this]
  ·rfl
theorem wk {kindOf : Str -> Option NameKind} {x : Str} : ∀ {binds : List (Str × Value)} {m : MG}, (∀ v, (x, v) ∉ binds) -> bindC kindOf binds m x = m x
 | [], _, _ => rfl
 | (n, v) :: r, m, h => by
  unfold bindC
  rw [wk fun w hw => h w (mem_cons_of_mem _ hw)]
  split
  ·rfl
  ·have : x ≠ n := by rintro rfl; exact h v mem_cons_self
   simp [this]
theorem wB {kindOf : Str -> Option NameKind} {x : Str} {v : Value} : ∀ {P : List Str} {vs : List Value} {i : Nat} {m : MG}, P.Nodup -> P[i]? = some x -> vs[i]? = some v -> kindOf x = some .local ->
  bindL kindOf (P.zip vs) m x = some v
 | [], _, _, _, _, h, _, _ => by simp at h
 | _ :: _, [], _, _, _, _, h, _ => by simp at h
 | p :: P, w :: vs, 0, m, nd, h1, h2, hk => by
  simp at h1 h2; subst h1; subst h2
  show bindL kindOf ((p, w) :: P.zip vs) m p = _
  unfold bindL
  rw [vZ fun v hv => (nodup_cons.mp nd).1 (of_mem_zip hv).1, if_pos hk]
  simp
 | p :: P, w :: vs, i + 1, m, nd, h1, h2, hk => by
  show bindL kindOf ((p, w) :: P.zip vs) m x = _
  unfold bindL
  exact wB (i := i) (nodup_cons.mp nd).2 (by simpa using h1) (by simpa using h2) hk
theorem wJ {kindOf : Str -> Option NameKind} {x : Str} {v : Value} : ∀ {P : List Str} {vs : List Value} {i : Nat} {m : MG}, P.Nodup -> P[i]? = some x -> vs[i]? = some v -> kindOf x ≠ some .local ->
  bindC kindOf (P.zip vs) m x = some v
 | [], _, _, _, _, h, _, _ => by simp at h
 | _ :: _, [], _, _, _, _, h, _ => by simp at h
 | p :: P, w :: vs, 0, m, nd, h1, h2, hk => by
  simp at h1 h2; subst h1; subst h2
  show bindC kindOf ((p, w) :: P.zip vs) m p = _
  unfold bindC
  rw [wk fun v hv => (nodup_cons.mp nd).1 (of_mem_zip hv).1, if_neg hk]
  simp
 | p :: P, w :: vs, i + 1, m, nd, h1, h2, hk => by
  show bindC kindOf ((p, w) :: P.zip vs) m x = _
  unfold bindC
  exact wJ (i := i) (nodup_cons.mp nd).2 (by simpa using h1) (by simpa using h2) hk
def start (N : List Str) (vs : List V) : St := vs.map some ++ List.replicate (N.length - vs.length) none
def nj (CX : CXT) (P : Program) (w : World) (K : Frag) (mg : MG) (base : Heap) (N : List Str) (qual : Str) (scope : Scope) (f : Addr) (cd : Value) (A : Around) (outer : List Env) (s : Shared) (H : Hp) (E : XK) : Cx where
 prog := P
 w := w
 K := K
 mg := mg
 base := base
 A := A.deeper (envOfC qual scope s.heap.objs.size f cd)
 N := N
 s₀ := s
 H₀ := H
 env := envOfC qual scope s.heap.objs.size f cd
 outer := outer
 stack := envOfC qual scope s.heap.objs.size f cd :: outer
 ex := []
 calm := true
 fn := fun _ => true
 pn := []
 xe := fun e s' => wpAny (model P w) (A.deeper (envOfC qual scope s.heap.objs.size f cd)) («leaving» (envOfC qual scope s.heap.objs.size f cd) e) (fun _ s'' => CX outer H s E e s'') (fun e' s'' => CX outer H s E e' s'') s'
theorem zW {sc : Scope} {n : Nat} {x : Str} (h : sc.names.lookup x = some .cell) : ∃ c, (cellsFrom n sc.names []).lookup x = some c := by
 have q := cellsFrom_some sc.names n [] (.inl h)
 exact Option.isSome_iff_exists.mp q
theorem wN {CX : CXT} {P : Program} {w : World} {K : Frag} {mg : MG} {base : Heap} {N ps : List Str} {qual : Str} {scope : Scope} {f : Addr} {cd : Value} {A : Around} {outer : List Env} {s s1 : Shared} {H : Hp} {E : XK} {us : List Value} {vs : List V}
  (S : aK N ps scope) (hd : A.handled = none) (e0 : yI P w K mg base A outer s H) (hl : vs.length = ps.length) (r : Vals vs us)
  (x : InCallC s s.heap.objs.size (bindL (envOfC qual scope s.heap.objs.size f cd).kindOf (ps.zip us) fun _ => none) (cellsFrom (s.heap.objs.size + 1) scope.names []) (bindC (envOfC qual scope s.heap.objs.size f cd).kindOf (ps.zip us) fun _ => none) s1) :
  Inv (nj CX P w K mg base N qual scope f cd A outer s H E) [] (start N vs) H s1 := by
 have hpl : ps.length <= N.length := by have := congrArg List.length S.pre; rw [length_take] at this; omega
 obtain ⟨h1, tk, rfl, hk⟩ := x.done
 have noA : ∀ b : Addr, b ∉ (nj CX P w K mg base N qual scope f cd A outer s H E).ex := fun b z => absurd (show b ∈ ([] : List Addr) from z) Z2
 refine ⟨⟨e0.mod, S.kind, rfl, rfl, le_refl _, fun y z c h1 h2 => ?_, fun y hy => ?_, fun y c _ h => ?_, fun _ => hd, Around.frames_deeper e0.frames, .inr ⟨rfl, rfl⟩, fun b z => absurd z (noA b), e0.bs, e0.bsz, fun b _ _ => noA b, fun b z => absurd z (noA b), e0.funs, e0.frf⟩,
  rfl, e0.bare, Un.kept hk, ⟨_, x.toInCall.ns, fun i y v h1 h2 h3 => ?_⟩, fun y c h => ⟨_, x.cell y c h⟩, e0.hok.fresh (le_refl _), fun y c h => ?_, fun p hp => absurd (show p ∈ ([] : OP) from hp) Z2, e0.hok.kept hk, ?_⟩
 ·exact name_of_addr x.apart (PySem.mem_of_lookup h1) (PySem.mem_of_lookup h2)
 ·have hy : scope.names.lookup y = some .cell \/ scope.names.lookup y = some .free := hy
  rcases hy with hy | hy
  ·exact zW hy
  ·exact absurd rfl (S.nofree _ (PySem.mem_of_lookup hy))
 ·exact le_of_lt (x.above y c (PySem.mem_of_lookup h))
 ·have hi : i < vs.length := by
   unfold start at h2
   by_cases hi : i < vs.length
   ·exact hi
   ·rw [getElem?_append_right (by simpa using hi)] at h2
    rw [List.getElem?_replicate] at h2
    split at h2 <;> cases h2
  have ha : vs[i]? = some v := by
   unfold start at h2
   rw [getElem?_append_left (by simpa using hi), getElem?_map] at h2
   cases e : vs[i]? with
   | none => rw [e] at h2; cases h2
   | some a => rw [e] at h2; cases h2; rfl
  obtain ⟨u, hu, rv⟩ := r.get ha
  have hp : ps[i]? = some y := by
   rw [<- S.pre, List.getElem?_take_of_lt Z1]; exact h1
  have ndP : ps.Nodup := by rw [<- S.pre]; exact S.nd.sublist (List.take_sublist _ _)
  refine ⟨u, rv, ?_⟩
  rcases S.par y (mem_of_getElem? hp) with k | k
  ·exact .inl ⟨k, wB ndP hp hu k⟩
  ·obtain ⟨c, e⟩ := zW (n := s.heap.objs.size + 1) k
   refine .inr ⟨.inl k, c, e, ?_⟩
   have q := x.cell y c e
   rw [wJ ndP hp hu (by show scope.names.lookup y ≠ _; rw [k]; decide)] at q
   exact q
 ·exact e0.hok.fresh (le_of_lt (x.above y c (PySem.mem_of_lookup h)))
 ·unfold start
  show _ = N.length
  rw [length_append, length_map, List.length_replicate]
  omega
theorem Kr {CX : CXT} {P : Program} {w : World} {K : Frag} {mg : MG} {base : Heap} {k : Nat} {f : Addr} {name qual : Str} {params : Arguments} {body : List Stmt} {scope : Scope} {dV kV doc pm cdv ct oc : Value} {an od : Option Addr}
  {osl : Array (Option Value)} {N ps : List Str} {sp : Sp} (lk : K.lookup f = some ⟨oc, od, .func (fnOf name qual params body scope dV kV doc pm an cdv ct), osl⟩) (hcd : codeIn K cdv qual = true) (S : aK N ps scope)
  (len : ∀ vs H Q E, sp vs H Q E -> vs.length = ps.length)
  (hbody : ∀ (A : Around) (outer : List Env) (s : Shared) (H : Hp) (vs : List V) (Q : VK) (E : XK), bh k (A.deeper (envOfC qual scope s.heap.objs.size f cdv)) -> sp vs H Q E ->
   ∃ t, PSs (nj CX P w K mg base N qual scope f cdv A outer s H E) body t /\ t { nx := fun _ H' => Q .non H', rt := Q } (start N vs) H) :
  aO P w K mg base CX (k + 1) f (fnOf name qual params body scope dV kV doc pm an cdv ct) ps sp := by
 refine ⟨len, fun A outer s H args us vs Q E hr e0 hb r hsp => ?_⟩
 have hl := len _ _ _ _ hsp
 have KX : K.In s.heap := e0.mod.kin.keeps fun b o e => (e0.bs b o e).1
 have lim : s.heap.NoLimit := e0.mod.nolimit.keeps fun b o e => (e0.bs b o e).1
 have hkind : ∀ y ∈ ps.zip us, scope.names.lookup y.1 = some .local \/ (scope.names.lookup y.1 = some .cell /\ ((cellsFrom (s.heap.objs.size + 1) scope.names []).lookup y.1).isSome = true) := fun ⟨n, v⟩ hy => by
  rcases S.par n (of_mem_zip hy).1 with q | q
  ·exact .inl q
  ·exact .inr ⟨q, cellsFrom_some _ _ _ (.inl q)⟩
 refine codeAny_call_function hr.depth (KX _ _ lk) rfl S.co S.gen rfl (codeRec_of KX hcd) (hb _ _ _ _ ?_)
 refine wpAny_newFunctionEnv_cells S.kind hkind fun env he s1 x => ?_
 subst he
 refine ⟨lim.keeps x.toInCall.keep, codeAny_func ?_⟩
 obtain ⟨t, ht, hq⟩ := hbody A outer s H vs Q E (hr.deeper _) hsp
 have I : Inv (nj CX P w K mg base N qual scope f cdv A outer s H E) [] (start N vs) H s1 := wN S hr.hd e0 hl r x
 refine wpAny_mono (ht [] s1 (start N vs) H _ I hq) (fun fl s' hs => ?_) fun e s' hs => hs
 have fin : ∀ {σ' : St} {H' : Hp} {v : V} {u : Value}, Inv (nj CX P w K mg base N qual scope f cdv A outer s H E) [] σ' H' s' -> RelV v u -> Q v H' -> CE outer P w H s Q u s' :=
  fun {σ' H' v u} J rv q => ⟨v, H', J.os, J.bare, J.base, J.hok, rv, q⟩
 cases fl with
 | ret u =>
  obtain ⟨v, σ', H', J, rv, q⟩ := hs
  exact fin J rv q
 | next =>
  obtain ⟨σ', H', J, q⟩ := hs
  exact fin (v := V.non) (u := Value.none) J rfl q
 | brk =>
  obtain ⟨_, _, _, q⟩ := hs
  exact False.elim q
 | cont =>
  obtain ⟨_, _, _, q⟩ := hs
  exact False.elim q
section
variable {X : Cx} {x : Str} {p pos : Pos} {e : Expr} {es : List Expr} {t : TA} {id T : String} {r : List V -> Hp -> VK -> Prop}
def tCB (r : List V -> Hp -> VK -> Prop) (t : TA) : TE := fun σ H Q => t σ H fun vs H1 => r vs H1 Q
theorem aF (hc : fY X (.builtin id) r) (hg : Gl X x) (hm : X.mg x = none) (hv : bootBuiltins x = some (.builtin id)) (ha : PA X (e :: es) t) (hn : x ≠ "__name__" := by decide) (hdb : (x == ("__debug__" : Str)) = false := by decide)
  (he : starEach (e :: es) X.env = (false, eval e X.env) :: starEach es X.env := by rfl) (hpl : (backTo pos (starEach es X.env)).any (·.1) = false := by rfl) : PE X (.Call (.Name x p) (e :: es) [] pos) (tCB r t) := by
 intro pins s σ H Q I h
 refine wpAny_Call_Name_kw (qX I hg hm hv ?_ hn hdb)
 exact PyProof.Rows.callWith_builtin1 (thn (ha pos pins s σ H _ I h) fun us s1 ⟨vs, H1, I1, r1, q1⟩ => hc pins s1 σ H1 vs us Q I1 r1 q1) he hpl
theorem bL (hc : fY X (.type T) r) (hg : Gl X x) (hm : X.mg x = none) (hv : bootBuiltins x = some (.type T)) (ha : PA X (e :: es) t) (hn : x ≠ "__name__" := by decide) (hdb : (x == ("__debug__" : Str)) = false := by decide)
  (he : starEach (e :: es) X.env = (false, eval e X.env) :: starEach es X.env := by rfl) (hpl : (backTo pos (starEach es X.env)).any (·.1) = false := by rfl) : PE X (.Call (.Name x p) (e :: es) [] pos) (tCB r t) := by
 intro pins s σ H Q I h
 refine wpAny_Call_Name_kw (qX I hg hm hv ?_ hn hdb)
 exact PyProof.Rows.callWith_type1 (thn (ha pos pins s σ H _ I h) fun us s1 ⟨vs, H1, I1, r1, q1⟩ => hc pins s1 σ H1 vs us Q I1 r1 q1) he hpl
end
end L2
namespace HT
open PySem PyProof.Rows
section
open PySem.SeqAt
open PySem.AutoSeq1 (wpAny_loadPart')
open PySem.MeetsSeq PySem.MeetsSeq2 PySem.MeetsSeq3
end
section
variable {prog : Program} {w : World} {A : Around} {E : EV} {s : Shared}
def sIx (n d : Nat) : Option Int -> Nat
 | none => d
 | some v => if v < 0 then (v + (n : Int)).toNat else min v.toNat n
theorem sIx_none (n d : Nat) : sIx n d none = d := rfl
theorem sIx_nat (n d k : Nat) : sIx n d (some (k : Int)) = min k n := by
 show (if (k : Int) < 0 then ((k : Int) + (n : Int)).toNat else min (k : Int).toNat n) = min k n
 rw [if_neg Z1, Int.toNat_natCast]
end
end HT
namespace L2
open PySem PySem.Spec PyProof.Rows
abbrev TO := St -> Hp -> (Option Int -> Hp -> Prop) -> Prop
def PO (X : Cx) (e : Option Expr) (t : TO) : Prop :=
 ∀ (pins : OP) (s : Shared) (σ : St) (H : Hp) (Q : Option Int -> Hp -> Prop), Inv X pins σ H s -> t σ H Q ->
  wpAny (model X.prog X.w) X.A (evalPart e X.env) (fun u s' => ∃ o H', Inv X pins σ H' s' /\ IsPart u o /\ Q o H') X.xe s
def JC : TO := fun _ H Q => Q none H
def Wv (t : TE) : TO := fun σ H Q => t σ H fun x H1 => ∃ i, x = .int i /\ Q (some i) H1
section
variable {X : Cx} {e : Expr} {te : TE} {lo hi : Option Expr} {tl th : TO} {pos p2 : Pos}
theorem bH : PO X none JC := by
 intro pins s σ H Q I h
 rw [evalPart_none]
 exact wpAny_pure ⟨none, H, I, .none, h⟩
theorem bI (h : PE X e te) : PO X (some e) (Wv te) := by
 intro pins s σ H Q I hw
 rw [evalPart_some]
 refine thn (h pins s σ H _ I hw) fun u s1 ⟨x, H1, I1, r1, q1⟩ => ?_
 obtain ⟨i, rfl, q⟩ := q1
 obtain ⟨t, rfl⟩ := r1
 exact ⟨some i, H1, I1, .int i t, q⟩
def SlR (X : Cx) (r : V -> Option Int -> Option Int -> Hp -> VK -> Prop) : Prop :=
 ∀ (pins : OP) (s : Shared) (σ : St) (H : Hp) (x : V) (v vl vu : Value) (lo hi : Option Int) (sl : Addr) (Q : VK), Inv X pins σ H s -> RelV x v -> s.heap.IsSliceOf sl vl vu .none -> IsPart vl lo -> IsPart vu hi -> r x lo hi H Q ->
  ∃ T id, typeLookup (.type T) "__getitem__" = pure (some (.builtin id)) /\ s.TypeIs v T /\ wpAny (model X.prog X.w) X.A (getItem v (.ref sl)) (EP X pins σ Q) X.xe s
def tSl (r : V -> Option Int -> Option Int -> Hp -> VK -> Prop) (te : TE) (tl th : TO) : TE := fun σ H Q => te σ H fun x H1 => tl σ H1 fun l H2 => th σ H2 fun u H3 => r x l u H3 Q
theorem bB {r : V -> Option Int -> Option Int -> Hp -> VK -> Prop} (hr : SlR X r) (he : PE X e te) (hl : PO X lo tl) (hu : PO X hi th) : PE X (.Subscript e (.Slice lo hi none p2) pos) (tSl r te tl th) := by
 intro pins s σ H Q I h
 refine Subscript_ (thn (he pins s σ H _ I h) fun v s1 ⟨x, H1, I1, r1, q1⟩ => ?_)
 refine wpAny_Slice (thn (hl pins s1 σ H1 _ I1 q1) fun vl s2 ⟨l, H2, I2, pl, q2⟩ => thn (hu pins s2 σ H2 _ I2 q2) fun vu s3 ⟨u, H3, I3, pu, q3⟩ => ?_)
 rw [evalPart_none]
 refine wpAny_pure ?_
 have I4 : Inv X pins σ H3 { s3 with heap := s3.heap.push { cls := .type "slice", data := .fields #[vl, vu, .none] } } := I3.kept (t' := s3.toks) fun b ob q => Heap.get?_push_of_some _ q
 obtain ⟨T, id, hT, ht, hg⟩ := hr pins { s3 with heap := s3.heap.push { cls := .type "slice", data := .fields #[vl, vu, .none] } } σ H3 x v vl vu l u s3.heap.objs.size Q I4 r1 (Heap.IsSliceOf.new ..) pl pu q3
 show wpAny (model X.prog X.w) X.A (subscriptTail e (.Slice lo hi none p2) v (.ref s3.heap.objs.size)) (EP X pins σ Q) X.xe { s3 with heap := s3.heap.push { cls := .type "slice", data := .fields #[vl, vu, .none] } }
 exact tail_any (ops := [.ref s3.heap.objs.size, v]) ht hT hg (by with_unfolding_all rfl)
def jj (xs : List V) (lo hi : Option Int) : List V := (xs.drop (HT.sIx xs.length 0 lo)).take (HT.sIx xs.length xs.length hi - HT.sIx xs.length 0 lo)
theorem zx (xs : List V) (lo hi : Option Int) : (jj xs lo hi).length <= xs.length := by
 unfold jj
 rw [length_take, length_drop]
 omega
end
def ixN (n : Nat) (i : Int) : Option Nat := if 0 <= i then (if i < n then some i.toNat else none) else if -(n : Int) <= i then some (i + n).toNat else none
def atI {α : Type} (xs : List α) (i : Int) : Option α := (ixN xs.length i).bind fun j => xs[j]?
theorem Jw {n : Nat} {i : Int} {j : Nat} (h : ixN n i = some j) : seqIndex? i n = some j /\ j < n /\ -(n : Int) <= i /\ i < n := by
 unfold ixN at h
 by_cases h0 : 0 <= i
 ·rw [if_pos h0] at h
  by_cases h1 : i < n
  ·rw [if_pos h1] at h
   have e : i.toNat = j := Option.some.inj h
   exact ⟨by rw [seqIndex_of h0 h1, e], Z1, Z1, h1⟩
  ·rw [if_neg h1] at h; cases h
 ·rw [if_neg h0] at h
  by_cases h1 : -(n : Int) <= i
  ·rw [if_pos h1] at h
   have e : (i + n).toNat = j := Option.some.inj h
   exact ⟨by rw [seqIndex_neg Z1 h1, e], Z1, h1, Z1⟩
  ·rw [if_neg h1] at h; cases h
theorem yw {α : Type} {xs : List α} {i : Int} {v : α} (h : atI xs i = some v) : ∃ j, seqIndex? i xs.length = some j /\ xs[j]? = some v /\ j < xs.length /\ -(xs.length : Int) <= i /\ i < xs.length := by
 unfold atI at h
 cases e : ixN xs.length i with
 | none => rw [e] at h; cases h
 | some j =>
  rw [e] at h
  obtain ⟨h1, h2, h3, h4⟩ := Jw e
  exact ⟨j, h1, h, h2, h3, h4⟩
theorem cM {α : Type} {xs : List α} {j : Nat} {v : α} (h : xs[j]? = some v) : atI xs (j : Int) = some v := by
 have hj : j < xs.length := (List.getElem?_eq_some_iff.mp h).1
 have e : ixN xs.length (j : Int) = some j := by
  unfold ixN
  rw [if_pos Z1, if_pos Z1]; simp
 unfold atI; rw [e]; exact h
def Cj (b : Expr) : Prop := ∀ o i, subscripted b false o i = operate [o, i] (getItem o i)
def IxR (X : Cx) (r : R2) : Prop :=
 ∀ (value slice : Expr) (pins : OP) (s : Shared) (σ : St) (H : Hp) (x y : V) (v u : Value) (Q : VK), Inv X pins σ H s -> RelV x v -> RelV y u -> r x y H Q ->
  subscripted slice false v u = operate [v, u] (getItem v u) -> wpAny (model X.prog X.w) X.A (subscriptTail value slice v u) (EP X pins σ Q) X.xe s
def MtR (X : Cx) (id : String) (r : V -> List V -> Hp -> VK -> Prop) : Prop :=
 ∀ (pins : OP) (s : Shared) (σ : St) (H : Hp) (x : V) (xs : List V) (v : Value) (us : List Value) (Q : VK), Inv X pins σ H s -> RelV x v -> Vals xs us -> r x xs H Q ->
  wpAny (model X.prog X.w) X.A (call (.builtin id) (v :: us)) (EP X pins σ Q) X.xe s
section
variable {X : Cx} {a b : Expr} {ta tb : TE} {pos : Pos}
theorem aX {r : R2} (hr : IxR X r) (ha : PE X a ta) (hb : PE X b tb) (hs : Cj b := by exact fun _ _ => rfl) : PE X (.Subscript a b pos) (tOp r ta tb) := by
 intro pins s σ H Q I h
 exact Subscript_ (K6 ha hb I h fun v u s2 x y H2 I2 rx ry q => hr a b pins s2 σ H2 x y v u Q I2 rx ry q (hs _ _))
def Pa (K : Frag) : R2 := fun x y H Q => ∃ p xs i v, x = .ref p /\ y = .int i /\ SqL K H p xs /\ atI xs i = some v /\ Q v H
def Vv (K : Frag) : R2 := fun x y H Q => ∃ p xs i v, x = .ref p /\ y = .int i /\ SqT K H p xs /\ atI xs i = some v /\ Q v H
def Nb : R2 := fun x y H Q => ∃ z i c, x = .str z /\ y = .int i /\ z.length <= sizeLine /\ atI z.cps.toList i = some c /\ Q (.str ⟨#[c]⟩) H
theorem aP : IxR X (Pa X.K) := by
 intro value slice pins s σ H x y v u Q I rx ry h hs
 obtain ⟨p, xs, i, z, rfl, rfl, hq, he, q⟩ := h
 cases rx
 obtain ⟨t, rfl⟩ := ry
 obtain ⟨its, r, pl, hz⟩ := I.list hq
 obtain ⟨j, h1, h2, h3, h4, h5⟩ := yw he
 obtain ⟨w, ew, rw'⟩ := r.get h2
 have hl := r.length
 have hn := vf
 have fin : EP X pins σ Q w s := ⟨z, H, I, rw', q⟩
 by_cases h0 : 0 <= i
 ·have hj : i.toNat = j := by
   rw [seqIndex_of h0 h5] at h1
   exact Option.some.inj h1
  exact item_listR pl.isList h0 Z1 (by rw [hj]; simpa using ew) fin hs
 ·have hj : (i + (its.toArray.size : Int)).toNat = j := by
   rw [seqIndex_neg Z1 h4] at h1
   rw [size_toArray, <- hl]
   exact Option.some.inj h1
  exact subscriptTail_builtinR (x := w) pl.isList.typeIs slot_list_getitem.lookup
   (wpAny_getItem_list_neg (Q := fun r s' => r = w /\ EP X pins σ Q r s') pl.isList Z1 (by rw [size_toArray] <;> omega) Z1 (by rw [hj]; simpa using ew) ⟨rfl, fin⟩) hs
theorem kj : IxR X (Vv X.K) := by
 intro value slice pins s σ H x y v u Q I rx ry h hs
 obtain ⟨p, xs, i, z, rfl, rfl, hq, he, q⟩ := h
 cases rx
 obtain ⟨t, rfl⟩ := ry
 obtain ⟨its, r, pl, hz⟩ := I.tuple hq
 obtain ⟨j, h1, h2, h3, h4, h5⟩ := yw he
 obtain ⟨w, ew, rw'⟩ := r.get h2
 have hl := r.length
 have hn := vf
 have fin : EP X pins σ Q w s := ⟨z, H, I, rw', q⟩
 exact subscriptTail_builtinR (x := w) pl.typeIs slot_tuple_getitem.lookup
  (getItem_tuple (j := j) (Q := fun r s' => r = w /\ EP X pins σ Q r s') pl Z1 Z1 (by rw [size_toArray, <- hl]; exact h1) (by simpa using ew) ⟨rfl, fin⟩) hs
theorem yo : IxR X Nb := by
 intro value slice pins s σ H x y v u Q I rx ry h hs
 obtain ⟨z, i, c, rfl, rfl, hz, he, q⟩ := h
 obtain ⟨t, rfl⟩ := rx
 obtain ⟨t', rfl⟩ := ry
 obtain ⟨j, h1, h2, h3, h4, h5⟩ := yw he
 have hl : z.cps.toList.length = z.length := by simp [Str.length]
 rw [hl] at h1 h4 h5
 have hn := vf
 exact tail_any (typeIs_str s z t) slot_str_getitem.lookup (getItem_str (c := c) (by
  have e1 : decide (i < -(2 ^ 63 : Int)) = false := decide_eq_false Z1
  have e2 : decide (i >= 2 ^ 63) = false := decide_eq_false Z1
  rw [e1, e2, Bool.or_false]) (by rw [h1]; simpa using h2) ⟨.str ⟨#[c]⟩, H, I.tok _, ⟨_, rfl⟩, q⟩) hs
theorem yl (lo hi : Option Int) (n : Nat) : (sliceBounds lo hi none n).1 = ((HT.sIx n 0 lo : Nat) : Int) /\ (sliceBounds lo hi none n).2.1 = ((HT.sIx n n hi : Nat) : Int) /\ (sliceBounds lo hi none n).2.2 = 1 := by
 refine ⟨?_, ?_, rfl⟩
 ·cases lo with
  | none => simp [sliceBounds, HT.sIx]
  | some i =>
   simp only [sliceBounds, HT.sIx, Option.getD_none, show (1 : Int) > 0 by decide, if_true]
   by_cases h : i < 0
   ·simp only [h, if_true] <;> omega
   ·simp only [h, if_false] <;> omega
 ·cases hi with
  | none => simp [sliceBounds, HT.sIx]
  | some i =>
   simp only [sliceBounds, HT.sIx, Option.getD_none, show (1 : Int) > 0 by decide, if_true]
   by_cases h : i < 0
   ·simp only [h, if_true] <;> omega
   ·simp only [h, if_false] <;> omega
theorem vJ (its : List Value) (lo hi : Option Int) : slicePick its.toArray lo hi none = ((its.drop (HT.sIx its.length 0 lo)).take (HT.sIx its.length its.length hi - HT.sIx its.length 0 lo)).toArray := by
 obtain ⟨h1, h2, h3⟩ := yl lo hi its.toArray.size
 unfold slicePick
 rw [h1, h2, h3]
 simp only [sliceRange_one, pick_run, size_toArray] <;> rfl
def Ys (K : Frag) : V -> Option Int -> Option Int -> Hp -> VK -> Prop := fun x lo hi H Q => ∃ a xs, x = .ref a /\ SqL K H a xs /\ ∀ p, H p = none -> Q (.ref p) (upd H p (.lst (jj xs lo hi)))
theorem cB : SlR X (Ys X.K) := by
 intro pins s σ H x v vl vu lo hi sl Q I rx hs pl pu h
 obtain ⟨a, xs, rfl, hx, q⟩ := h
 cases rx
 obtain ⟨its, r, ht, hz⟩ := I.list hx
 have hlen := r.length
 refine ⟨"list", _, slot_list_getitem.lookup, ht.isList.typeIs, ?_⟩
 refine wpAny_getItem_list_slice ht.isList hs pl pu .none Z2 ?_ (by rw [size_toArray] <;> omega)
 rw [vJ, <- hlen]
 refine ⟨.ref s.heap.objs.size, _, I.laid (t' := s.toks) (o := .lst (jj xs lo hi)) (fun b ob q => Heap.get?_push_of_some _ q) (le_refl _) ?_, rfl, q _ (I.hok.fresh (le_refl _))⟩
 exact ⟨le_trans (zx xs lo hi) hz, _, 0, (r.drop (HT.sIx xs.length 0 lo)).take (HT.sIx xs.length xs.length hi - HT.sIx xs.length 0 lo), Heap.get?_push_size _ rfl⟩
def qH : V -> Bool
 | .non => true
 | .bl _ => true
 | .int _ => true
 | .str _ => true
 | _ => false
def eqV : V -> V -> Bool
 | .non, .non => true
 | .bl a, .bl b => a == b
 | .bl a, .int b => (if a then 1 else 0) == b
 | .int a, .bl b => a == (if b then 1 else 0)
 | .int a, .int b => a == b
 | .str a, .str b => a == b
 | _, _ => false
theorem K7 {A : Around} {s : Shared} {y x : V} {u v : Value} (ry : RelV y u) (rx : RelV x v) (fy : qH y = true) (fx : qH x = true) : SeqAt.EqAt A s u v (eqV y x) := by
 cases y with
 | non =>
  cases ry
  cases x with
  | non => cases rx; exact SeqAt.EqAt.same _
  | bl b => cases rx; exact SeqAt.EqAt.none_bool b
  | int b => obtain ⟨t, rfl⟩ := rx; exact SeqAt.EqAt.none_int b t
  | str b => obtain ⟨t, rfl⟩ := rx; exact SeqAt.EqAt.none_str b t
  | _ => exact absurd (show false = true from fx) Bool.false_ne_true
 | bl a =>
  cases ry
  cases x with
  | non => cases rx; exact SeqAt.EqAt.bool_none a
  | bl b => cases rx; exact SeqAt.EqAt.bool_bool a b
  | int b => obtain ⟨t, rfl⟩ := rx; exact SeqAt.EqAt.bool_int a b t
  | str b => obtain ⟨t, rfl⟩ := rx; exact SeqAt.EqAt.bool_str a b t
  | _ => exact absurd (show false = true from fx) Bool.false_ne_true
 | int a =>
  obtain ⟨t', rfl⟩ := ry
  cases x with
  | non => cases rx; exact SeqAt.EqAt.int_none a t'
  | bl b => cases rx; exact SeqAt.EqAt.int_bool a t' b
  | int b => obtain ⟨t, rfl⟩ := rx; exact SeqAt.EqAt.int_int a t' b t
  | str b => obtain ⟨t, rfl⟩ := rx; exact SeqAt.EqAt.int_str a t' b t
  | _ => exact absurd (show false = true from fx) Bool.false_ne_true
 | str a =>
  obtain ⟨t', rfl⟩ := ry
  cases x with
  | non => cases rx; exact SeqAt.EqAt.str_none a t'
  | bl b => cases rx; exact SeqAt.EqAt.str_bool a t' b
  | int b => obtain ⟨t, rfl⟩ := rx; exact SeqAt.EqAt.str_int a t' b t
  | str b => obtain ⟨t, rfl⟩ := rx; exact SeqAt.EqAt.str_str a t' b t
  | _ => exact absurd (show false = true from fx) Bool.false_ne_true
 | _ => exact absurd (show false = true from fy) Bool.false_ne_true
def eqU (x : V) (u : Value) : Bool := match u with
 | .none => eqV .non x
 | .bool b => eqV (.bl b) x
 | .int i _ => eqV (.int i) x
 | .str z _ => eqV (.str z) x
 | _ => false
theorem Fq {x y : V} {u : Value} (r : RelV y u) (f : qH y = true) : eqU x u = eqV y x := by
 cases y with
 | non => cases r; rfl
 | bl b => cases r; rfl
 | int i => obtain ⟨t, rfl⟩ := r; rfl
 | str z => obtain ⟨t, rfl⟩ := r; rfl
 | _ => exact absurd (show false = true from f) Bool.false_ne_true
theorem pR {x : V} : ∀ {xs : List V} {us : List Value}, Vals xs us -> xs.all qH = true -> us.any (eqU x) = xs.any fun y => eqV y x
 | _, _, .nil, _ => rfl
 | y :: xs, u :: us, .cons r t, f => by
  rw [List.all_cons, and_eq_true] at f
  rw [List.any_cons, List.any_cons, Fq r f.1, pR t f.2]
theorem nC {A : Around} {s : Shared} {x : V} {v : Value} (rx : RelV x v) (fx : qH x = true) : ∀ {xs : List V} {us : List Value}, Vals xs us -> xs.all qH = true -> ∀ u ∈ us, SeqAt.EqAt A s u v (eqU x u)
 | _, _, .nil, _ => fun u hu => by cases hu
 | y :: xs, u :: us, .cons r t, f => fun u' hu => by
  rw [List.all_cons, and_eq_true] at f
  rcases mem_cons.mp hu with rfl | hu
  ·rw [Fq r f.1]; exact K7 r rx f.1 fx
  ·exact nC rx fx t f.2 u' hu
def inV (x : V) (xs : List V) : Bool := xs.any fun y => eqV y x
def rIn (K : Frag) (neg : Bool) : R2 := fun x y H Q => ∃ p xs, y = .ref p /\ (SqL K H p xs \/ SqT K H p xs) /\ qH x = true /\ xs.all qH = true /\ Q (.bl (if neg then !inV x xs else inV x xs)) H
theorem je : OpR X (compareOp .In) (rIn X.K false) := by
 intro pins s σ H x y v u Q I rx ry h
 obtain ⟨p, xs, rfl, hq, fx, fs, q⟩ := h
 cases ry
 rcases hq with hq | hq
 ·obtain ⟨its, r, pl, hz⟩ := I.list hq
  refine SeqAt.in_listAt (eqU x) pl.isList (fun w hw => nC rx fx r fs w (by simpa using hw)) ⟨.bl _, H, I, rfl, ?_⟩
  rw [show its.toArray.any (eqU x) = its.any (eqU x) by simp, pR r fs]
  exact q
 ·obtain ⟨its, r, pl, hz⟩ := I.tuple hq
  refine SeqAt.in_tupleAt (eqU x) pl (fun w hw => nC rx fx r fs w (by simpa using hw)) ⟨.bl _, H, I, rfl, ?_⟩
  rw [show its.toArray.any (eqU x) = its.any (eqU x) by simp, pR r fs]
  exact q
theorem xW : OpR X (compareOp .NotIn) (rIn X.K true) := by
 intro pins s σ H x y v u Q I rx ry h
 obtain ⟨p, xs, rfl, hq, fx, fs, q⟩ := h
 cases ry
 rcases hq with hq | hq
 ·obtain ⟨its, r, pl, hz⟩ := I.list hq
  refine SeqAt.notIn_listAt (eqU x) pl.isList (fun w hw => nC rx fx r fs w (by simpa using hw)) ⟨.bl _, H, I, rfl, ?_⟩
  rw [show its.toArray.any (eqU x) = its.any (eqU x) by simp, pR r fs]
  exact q
 ·obtain ⟨its, r, pl, hz⟩ := I.tuple hq
  refine SeqAt.notIn_tupleAt (eqU x) pl (fun w hw => nC rx fx r fs w (by simpa using hw)) ⟨.bl _, H, I, rfl, ?_⟩
  rw [show its.toArray.any (eqU x) = its.any (eqU x) by simp, pR r fs]
  exact q
theorem aY : fY X (.builtin "len") (fun xs H Q => ∃ p ys, xs = [.ref p] /\ (SqL X.K H p ys \/ SqT X.K H p ys) /\ Q (.int ys.length) H) := by
 intro pins s σ H xs us Q I r h
 obtain ⟨p, ys, rfl, hq, q⟩ := h
 obtain ⟨u, rfl, rx⟩ := vals1 r
 cases rx
 have hn := vf
 rcases hq with hq | hq
 ·obtain ⟨its, r', pl, hz⟩ := I.list hq
  have hlen := r'.length
  exact Calls.call_len_list pl.isList (by simp only [size_toArray] <;> omega) ⟨.int ys.length, H, I.tok _, ⟨s.toks + 1, by rw [size_toArray, hlen]⟩, q⟩
 ·obtain ⟨its, r', pl, hz⟩ := I.tuple hq
  have hlen := r'.length
  exact len_tuple pl (by simp only [size_toArray] <;> omega) ⟨.int ys.length, H, I.tok _, ⟨s.toks + 1, by rw [size_toArray, hlen]⟩, q⟩
theorem b7 : fY X (.builtin "len") (fun xs H Q => ∃ z, xs = [.str z] /\ z.length <= sizeLine /\ Q (.int z.length) H) := by
 intro pins s σ H xs us Q I r h
 obtain ⟨z, rfl, hz, q⟩ := h
 obtain ⟨u, rfl, t, rfl⟩ := vals1 r
 have hn := vf
 exact len_str Z1 ⟨.int z.length, H, I.tok _, ⟨_, rfl⟩, q⟩
theorem lH : fY X (.type "list") (fun xs H Q => ∃ p ys, xs = [.ref p] /\ (SqL X.K H p ys \/ SqT X.K H p ys) /\ ∀ l, H l = none -> Q (.ref l) (upd H l (.lst ys))) := by
 intro pins s σ H xs us Q I r h
 obtain ⟨p, ys, rfl, hq, q⟩ := h
 obtain ⟨u, rfl, rx⟩ := vals1 r
 cases rx
 have fin : ∀ (its : List Value), Vals ys its -> ys.length <= sizeLine -> ∀ (h' : Heap) (c' : Nat), (∀ b o', s.heap.get? b = some o' -> h'.get? b = some o') ->
   h'.get? s.heap.objs.size = some { cls := .type "list", dict := none, data := .seq its.toArray c', slots := #[] } -> EP X pins σ Q (.ref s.heap.objs.size) { s with heap := h' } := fun its r' hz h' c' kp e =>
  ⟨.ref s.heap.objs.size, _, I.laid (t' := s.toks) kp (le_refl _) (show cT X.prog X.w _ h' _ (.lst ys) from ⟨hz, its, c', r', e⟩), rfl, q _ (I.hok.fresh (le_refl _))⟩
 rcases hq with hq | hq
 ·obtain ⟨its, r', pl, hz⟩ := I.list hq
  have hlen := r'.length
  obtain ⟨o, ho, hc, n, hd⟩ := pl.isList
  exact call_list_seq p (.inl rfl) ho hc hd (fun h' c' kp e => fin its r' hz h' c' kp e) (by simp only [size_toArray] <;> omega)
 ·obtain ⟨its, r', pl, hz⟩ := I.tuple hq
  have hlen := r'.length
  obtain ⟨o, ho, hc, n, hd⟩ := pl
  exact call_list_seq p (.inr rfl) ho hc hd (fun h' c' kp e => fin its r' hz h' c' kp e) (by simp only [size_toArray] <;> omega)
theorem jZ : fY X (.type "tuple") (fun xs H Q => ∃ p ys, xs = [.ref p] /\ ((SqL X.K H p ys /\ ∀ l, H l = none -> Q (.ref l) (upd H l (.tup ys))) \/ (SqT X.K H p ys /\ Q (.ref p) H))) := by
 intro pins s σ H xs us Q I r h
 obtain ⟨p, ys, rfl, h⟩ := h
 obtain ⟨u, rfl, rx⟩ := vals1 r
 cases rx
 rcases h with ⟨hq, q⟩ | ⟨hq, q⟩
 ·obtain ⟨its, r', pl, hz⟩ := I.list hq
  have hlen := r'.length
  refine call_tuple_list pl.isList (fun h' kp => ?_) (by simp only [size_toArray] <;> omega)
  have I1 : Inv X pins σ H { s with heap := h' } := I.kept (t' := s.toks) kp
  have I2 : Inv X pins σ (upd H h'.objs.size (.tup ys)) { s with heap := h'.push { cls := .type "tuple", data := .seq its.toArray } } :=
   I1.laid (t' := s.toks) (fun b o e => Heap.get?_push_of_some _ e) (le_refl _) (show cT X.prog X.w _ _ _ (.tup ys) from ⟨hz, its, r', IsTup.new _ _⟩)
  exact ⟨.ref h'.objs.size, _, I2, rfl, q _ (I1.hok.fresh (le_refl _))⟩
 ·obtain ⟨its, r', pl, hz⟩ := I.tuple hq
  exact call_tuple_same pl ⟨.ref p, H, I, rfl, q⟩
def tyV (K : Frag) (T : String) (x : V) (H : Hp) : Prop := match x with
 | .str _ => T = "str"
 | .int _ => T = "int"
 | .ref p => (T = "list" /\ ∃ xs, SqL K H p xs) \/ (T = "tuple" /\ ∃ o, K.lookup p = some o /\ o.cls = .type "tuple" /\ o.dict = none) \/
   (T = "dict" /\ ((∃ kvs, H p = some (.dK kvs)) \/ ∃ kvs, H p = some (.dT kvs))) \/ (T = "set" /\ ∃ S n, H p = some (.set S n))
 | _ => False
theorem Mi {pins : OP} {σ : St} {H : Hp} {s : Shared} {T : String} {x : V} {v : Value} (I : Inv X pins σ H s) (r : RelV x v) (ty : tyV X.K T x H) :
  s.TypeIs v T /\ ∀ a, v = .ref a -> ∃ ob, s.heap.get? a = some ob /\ ob.dict = none := by
 cases x with
 | str z =>
  obtain ⟨t, rfl⟩ := r
  cases (show T = "str" from ty)
  exact ⟨typeIs_str s z t, fun _ e => nomatch e⟩
 | int i =>
  obtain ⟨t, rfl⟩ := r
  cases (show T = "int" from ty)
  exact ⟨typeIs_int s i t, fun _ e => nomatch e⟩
 | ref p =>
  cases r
  rcases ty with ⟨rfl, xs, hq⟩ | ⟨rfl, o, hk, hc, hd⟩ | ⟨rfl, hk⟩ | ⟨rfl, S, n, hk⟩
  ·obtain ⟨its, _, pl, _⟩ := I.list hq
   refine ⟨pl.isList.typeIs, fun a e => ?_⟩
   cases e
   obtain ⟨o, n, e, c, hd, _⟩ := pl
   exact ⟨o, e, hd⟩
  ·refine ⟨⟨o, I.kIn p o hk, hc⟩, fun a e => ?_⟩
   cases e
   exact ⟨o, I.kIn _ o hk, hd⟩
  ·have z : ∃ o, s.heap.get? p = some o /\ o.ExactDict := by
    rcases hk with ⟨kvs, hk⟩ | ⟨kvs, hk⟩
    ·obtain ⟨_, _, _, _, o, _, _, e, ex, _⟩ := I.hok p _ hk
     exact ⟨o, e, ex⟩
    ·obtain ⟨_, _, _, _, o, _, _, e, ex, _⟩ := I.hok p _ hk
     exact ⟨o, e, ex⟩
   obtain ⟨o, e, ex⟩ := z
   refine ⟨⟨o, e, ex.1⟩, fun a e2 => ?_⟩
   cases e2
   exact ⟨o, e, ex.2.1⟩
  ·obtain ⟨o, _, _, _, e, ex, _⟩ := I.hok p _ hk
   refine ⟨⟨o, e, ex.1⟩, fun a e2 => ?_⟩
   cases e2
   exact ⟨o, e, ex.2.1⟩
 | _ => exact False.elim ty
def tBM (K : Frag) (T : String) (r : V -> List V -> Hp -> VK -> Prop) (to : TE) (t : TA) : TE := fun σ H Q => to σ H fun x H1 => tyV K T x H1 /\ t σ H1 fun xs H2 => r x xs H2 Q
variable {o e : Expr} {es : List Expr} {to : TE} {t : TA} {name : Str} {apos cpos : Pos} {T id : String} {r : V -> List V -> Hp -> VK -> Prop}
theorem dU (pa : PlainAttrs T) (slot : Slot T name id) (hty : typeOf (.builtin id) = pure (.type "method_descriptor")) (hm : MtR X id r) (ho : PE X o to) (ha : PA X (e :: es) t)
  (hbase : attributeBase o name X.env (eval o X.env) = eval o X.env := by rfl)
  (hfew : ((backTo cpos (starEach (e :: es) X.env)).all (fun x => !x.1) && (backToKw cpos (keywordEach [] X.env)).all (fun x => x.1.isSome)
   && decide ((e :: es).length + ([] : List Keyword).length + (if ([] : List Keyword).isEmpty then 0 else 1) < 30)) = true := by rfl)
  (hline : (apos.endLine == cpos.line) = true := by rfl) (hs : starEach (e :: es) X.env = (false, eval e X.env) :: starEach es X.env := by rfl) (hplain : (backTo cpos (starEach es X.env)).any (·.1) = false := by rfl) :
  PE X (.Call (.Attribute o name apos) (e :: es) [] cpos) (tBM X.K T r to t) := by
 intro pins s σ H Q I h
 refine wpAny_Call_method_late hbase hfew hline rfl (thn (ho pins s σ H _ I h) fun v s1 ⟨x, H1, I1, r1, ty, q1⟩ => ?_)
 obtain ⟨h1, h2⟩ := Mi I1 r1 ty
 refine ⟨T, id, pa, slot, hty, h1, h2, ?_⟩
 have hA := ha cpos pins s1 σ H1 _ I1 q1
 rw [hs] at hA ⊢
 refine Calls.callWith_builtin (by show (false || (backTo cpos (starEach es X.env)).any (·.1)) = false; rw [hplain] <;> rfl) (Calls.evalArgs_plain ?_)
 exact thn hA fun us s2 ⟨vs, H2, I2, r2, q2⟩ => hm pins s2 σ H2 x vs v us Q I2 r1 r2 q2
end
def MtM (X : Cx) (id : String) (r : V -> List V -> Hp -> VK -> Prop) : Prop :=
 ∀ (pins : OP) (s : Shared) (σ : St) (H : Hp) (x : V) (xs : List V) (v : Value) (us : List Value) (Q : VK), Inv X pins σ H s -> RelV x v -> Vals xs us -> r x xs H Q ->
  wpAny (model X.prog X.w) X.A (call (.builtin id) (v :: us)) (EP X pins σ Q) X.xe s
theorem Vals.one : ∀ {x : V} {us : List Value}, Vals [x] us -> ∃ u, us = [u] /\ RelV x u
 | _, _, .cons r .nil => ⟨_, rfl, r⟩
theorem Vals.rep {xs : List V} {us : List Value} (h : Vals xs us) : ∀ k : Nat, Vals (List.replicate k xs).flatten (List.replicate k us).flatten
 | 0 => .nil
 | k + 1 => by
  rw [replicate_succ, replicate_succ, flatten_cons, flatten_cons]
  exact Vals.append h (Vals.rep h k)
theorem foldl_rep (its : List Value) : ∀ (k : Nat) (acc : List Value),
  List.foldl (fun x1 x2 => x1 ++ x2) acc.toArray (List.replicate k its.toArray) = (acc ++ (List.replicate k its).flatten).toArray
 | 0, acc => by simp
 | k + 1, acc => by
  have e : acc.toArray ++ its.toArray = (acc ++ its).toArray := by simp
  have e2 : (acc ++ its) ++ (List.replicate k its).flatten = acc ++ (List.replicate (k + 1) its).flatten := by
   rw [replicate_succ, flatten_cons, append_assoc]
  rw [<- e2, <- foldl_rep its k (acc ++ its), <- e, replicate_succ, List.foldl_cons]
section
variable {X : Cx} {pins : OP} {σ : St} {H : Hp} {s : Shared} {l b : Addr} {xs ys zs : List V}
theorem Inv.lset {its its' : List Value} {n : Nat} {f : Array Value -> Array Value} {t' : Nat} (I : Inv X pins σ H s) (hH : H l = some (.lst xs))
  (e : s.heap.get? l = some { cls := .type "list", data := .seq its.toArray n }) (hf : f its.toArray = its'.toArray) (hv : Vals ys its') (hz : ys.length <= sizeLine) :
  Inv X pins σ (upd H l (.lst ys)) { s with heap := s.heap.update l (Obj.mapSeq f), toks := t' } := by
 have q := PySem.IsL.update e f
 rw [hf] at q
 refine I.write (x := l) (e := l) (by rw [hH]; exact trivial) (.inl rfl) (fun b' u hb hu => (Heap.get?_update_other s.heap (Obj.mapSeq f) (Ne.symm hb)).trans hu) ⟨_, q⟩ ?_
 exact ⟨hz, its', _, hv, q⟩
theorem Inv.lnew {its : List Value} {t' : Nat} (I : Inv X pins σ H s) (hv : Vals ys its) (hz : ys.length <= sizeLine) :
  Inv X pins σ (upd H s.heap.objs.size (.lst ys)) { s with heap := s.heap.push { cls := .type "list", data := .seq its.toArray }, toks := t' } :=
 I.laid (fun _ _ q => Heap.get?_push_of_some _ q) (le_refl _) ⟨hz, its, 0, hv, Heap.get?_push_size _ rfl⟩
theorem Inv.fresh (I : Inv X pins σ H s) : H s.heap.objs.size = none := I.hok.fresh (le_refl _)
theorem Inv.lstM (I : Inv X pins σ H s) (hH : H l = some (.lst xs)) : xs.length <= sizeLine /\ ∃ (its : List Value) (n : Nat), Vals xs its /\ xs.length = its.length /\ s.heap.get? l = some { cls := .type "list", data := .seq its.toArray n } := by
 obtain ⟨z, its, n, r, e⟩ := I.hok l _ hH
 exact ⟨z, its, n, r, r.length, e⟩
theorem Fv {n : Nat} (h : n <= sizeLine) : Builtin.List.listTooLong n = false := by
 unfold Builtin.List.listTooLong
 exact decide_eq_false Z1
end
section
variable {X : Cx}
def BZ : V -> List V -> Hp -> VK -> Prop := fun x vs H Q => ∃ l xs y, x = .ref l /\ vs = [y] /\ H l = some (.lst xs) /\ xs.length < sizeLine /\ Q .non (upd H l (.lst (xs ++ [y])))
theorem lu : MtM X "list.append" BZ := by
 intro pins s σ H x vs v us Q I rx rv h
 obtain ⟨l, xs, y, rfl, rfl, hH, hz, q⟩ := h
 cases rx
 obtain ⟨u, rfl, ru⟩ := rv.one
 obtain ⟨z, its, n, r, hl, e⟩ := I.lstM hH
 refine call_meets F.slot_list_append ⟨_, e, rfl⟩ F.entry_list_append (F.args_list_append_2 _ _) (PySem.list_append l its.toArray n u (by rw [size_toArray]; omega)) ⟨e, ?_⟩
 refine ⟨.non, _, I.lset (its' := its ++ [u]) hH e Z2 (r.append (.cons ru .nil)) ?_, rfl, q⟩
 rw [length_append, List.length_singleton]
 omega
def Xl : R2 := fun x y H Q => ∃ l b xs zs, x = .ref l /\ y = .ref b /\ H l = some (.lst xs) /\ H b = some (.lst zs) /\ xs.length + zs.length <= sizeLine /\ ∀ p, H p = none -> Q (.ref p) (upd H p (.lst (xs ++ zs)))
theorem dC : OpR X (binaryOp .Add) Xl := by
 intro pins s σ H x y v u Q I rx ry h
 obtain ⟨l, b, xs, zs, rfl, rfl, hH, hB, hz, q⟩ := h
 cases rx
 cases ry
 obtain ⟨z, its, n, r, hl, e⟩ := I.lstM hH
 obtain ⟨z2, its2, n2, r2, hl2, e2⟩ := I.lstM hB
 refine PySem.P.add_list e e2 ?_ (by rw [size_toArray, size_toArray]; omega)
 have ea : its.toArray ++ its2.toArray = (its ++ its2).toArray := by simp
 rw [ea]
 exact ⟨.ref _, _, I.lnew (t' := s.toks) (r.append r2) (by rw [length_append]; omega), rfl, q _ I.fresh⟩
def Xn : R2 := fun x y H Q => ∃ l k xs, x = .ref l /\ y = .int k /\ H l = some (.lst xs) /\ -(2 ^ 63) <= k /\ k < 2 ^ 63 /\ xs.length * k.toNat <= sizeLine /\
 ∀ p, H p = none -> Q (.ref p) (upd H p (.lst (List.replicate k.toNat xs).flatten))
theorem len_rep {α : Type} (xs : List α) (k : Nat) : (List.replicate k xs).flatten.length = k * xs.length := by
 induction k with
 | zero => simp
 | succ k ih => rw [replicate_succ, flatten_cons, length_append, ih, Nat.succ_mul, Nat.add_comm]
theorem Lq : OpR X (binaryOp .Mult) Xn := by
 intro pins s σ H x y v u Q I rx ry h
 obtain ⟨l, k, xs, rfl, rfl, hH, h1, h2, hz, q⟩ := h
 cases rx
 obtain ⟨t, rfl⟩ := ry
 obtain ⟨z, its, n, r, hl, e⟩ := I.lstM hH
 have hlen : its.toArray.size * k.toNat <= sizeLine := by rw [size_toArray, <- hl]; exact hz
 have hcap : ¬ its.toArray.size * k.toNat > (2 ^ 63 - 1) / 8 := by
  have : (sizeLine : Nat) <= (2 ^ 63 - 1) / 8 := by decide
  omega
 have hfit : ¬ (!Builtin.List.listFitsIndex k) = true := by
  rw [fitsIndex_both h1 h2]
  exact Bool.false_ne_true
 have hlong : ¬ Builtin.List.listTooLong (its.toArray.size * k.toNat) = true := by
  rw [Fv hlen]
  exact Bool.false_ne_true
 have hnew : List.foldl (fun x1 x2 => x1 ++ x2) #[] (List.replicate (if its.toArray.isEmpty = true then 0 else k.toNat) its.toArray) = (List.replicate k.toNat its).flatten.toArray := by
  have f0 : ∀ m : Nat, List.foldl (fun x1 x2 => x1 ++ x2) #[] (List.replicate m its.toArray) = (List.replicate m its).flatten.toArray := fun m => by
   have := foldl_rep its m []
   rw [List.nil_append] at this
   exact this
  rw [f0]
  cases its with
  | nil => simp
  | cons a r' => rw [if_neg Z2]
 refine wpAny_binaryOp_repeat_ref (T := "list") (U := "int") Z0 ⟨_, e, rfl⟩ (fun s' => typeIs_int s' k t) noFill_list_mul F.fills_int_mul F.slot_int_rmul repeat_list F.slot_int_index.lookup
  (call_meets F.slot_int_rmul (typeIs_int s k t) F.entry_int_rmul (F.args_int_rmul_2 _ _) (int___rmul___int_list k t l its.toArray n)
   ⟨e, rfl, ⟨_, e, rfl⟩, call_meets F.slot_list_mul ⟨_, e, rfl⟩ F.entry_list_mul (F.args_list_mul_2 _ _) (AutoListH.list___mul___list_int_3 l its.toArray n k t hfit hcap hlong) ⟨e, ?_⟩⟩)
 rw [hnew]
 exact ⟨.ref _, _, I.lnew (t' := s.toks) (r.rep k.toNat) (by rw [len_rep, Nat.mul_comm]; exact hz), rfl, q _ I.fresh⟩
end
section
variable {prog : Program} {w : World} {A : Around} {E : EV} {s : Shared}
end
section
variable {X : Cx}
end
end L2
namespace Att
open PySem PySem.W PySem.Calls PyProof.Rows
theorem sS {P : Params} {h : Heap} : ∀ (ns : List Int) (vs : List Value), WellAll P h vs (ns.map WData.int) -> IntsAre vs ns := by
 intro ns
 induction ns with
 | nil =>
  intro vs w
  rw [map_nil] at w
  cases w
  exact .nil
 | cons n ns ih =>
  intro vs w
  rw [map_cons] at w
  cases w with
  | cons a b =>
   cases a
   exact .cons _ _ (ih _ b)
theorem Es {l : OpenLaw} {n : Nat} (hn : l.most = some n) {P : Params} {h : Heap} {args : List WData} {vals : List Value}
  (hpre : l.row.toRowW.claim.pre args = true) (hwl : WellAll P h vals args) :
  ∃ a vs ns, vals = [Value.ref a] /\ args = [WData.list (ns.map WData.int)] /\ h.get? a = some { cls := .type "list", data := .seq vs.toArray } /\ IntsAre vs ns /\ ns.length <= n := by
 have hsh : WShape.hasAll [] args [.list .int] = true := (pre_splitW hpre).1
 have hc : l.pre.holds [] { args := args } = true := (pre_splitW hpre).2
 obtain ⟨d, r, rfl, h1, h2⟩ := hasAllW_cons hsh
 obtain rfl := hasAllW_nil h2
 obtain ⟨xs, rfl, h3⟩ := hasW_list h1
 obtain ⟨ns, rfl⟩ := items_int h3
 have hlen : ns.length <= n := by
  unfold OpenLaw.pre at hc
  have h4 : (WTm.not (.lt (.lit (.int (n : Int))) (.len (.arg 0)))).holds [] { args := [.list (ns.map .int)] } = true := by
   have h4 := (holds_andW hc).1
   rw [hn] at h4
   exact h4
  have h5 := condW_of h4 (w_not (w_lt w_lit (w_len_list (w_arg rfl))))
  rw [length_map] at h5
  refine Nat.le_of_not_lt fun q => ?_
  have q' : (n : Int) < ((ns.length : Nat) : Int) := by omega
  first
   | (rw [decide_eq_true q'] at h5; exact absurd h5 Z0)
   | (simp at h5; omega)
 cases hwl with
 | cons w1 w2 =>
  cases w2
  cases w1 with
  | list ho hall => exact ⟨_, _, ns, rfl, rfl, ho, sS ns _ hall, hlen⟩
theorem Fe (l : OpenLaw) (args : List WData) : l.row.toRowW.claim.post args (.bool true) args = true :=
 postW_of (r := l.row.toRowW) (X := (true == true))
  (show WShape.has [] (.bool true) .bool = true by first | rfl | decide | simp [WShape.has, WShape.arms, WShape.armsAll])
  (show (WTm.eq .res (.lit (.bool true))).value [] { args := args, res := some (.bool true), after := args } = some (.bool (true == true)) from w_eq_bool (w_res rfl) w_lit) rfl
theorem attach_call {l : OpenLaw} {n : Nat} {q : Program} {loose : List Str} {XP : (Str -> Option Value) -> Heap -> Prop} {YP : World -> Heap -> Prop} {d : DefRec}
  (hn : l.most = some n) (hdf : d.params.defaults = [])
  (call : ∀ (w : World) (s₀ s₁ : Shared) (mg mb : MG) (fa : Addr) (o : Obj) (pm cd doc : Value) (a : Addr) (vs : List Value) (ns : List Int),
   Ground q loose [] XP w s₀ mg mb s₁.heap -> YP w s₁.heap ->
   s₁.heap.get? fa = some o -> o.data = .func (docDef d.name d.params d.body d.scope pm cd doc) -> s₁.heap.CodeRec cd d.name -> mg d.name = some (.ref fa) ->
   s₁.heap.get? a = some { cls := .type "list", data := .seq vs.toArray } -> IntsAre vs ns -> ns.length <= n -> s₁.gens = #[] ->
   codeAny (model l.prog w) callerA (.call (.ref fa) ⟨[.ref a], []⟩) (fun r s' => r = .ok (.ret (.bool true)) /\ OldK s₁.heap s'.heap /\ s'.os = s₁.os /\ AllBare s'.gens) s₁) :
  WalkO q loose XP YP l.row.toRowW d [] (fun f vs => PySem.call f vs) := by
 intro w s₀ s₁ mg mb G Y fa o pm cd doc dV kV ho hd hcd hD hmg hg args vals as hpre hlay hrd hwl hlo
 obtain rfl : dV = .none := Dflts.none hD hdf
 obtain rfl : kV = .none := Dflts.noKw hD
 obtain ⟨a, vs, ns, rfl, rfl, hobj, hints, hlen⟩ := Es hn hpre hwl
 refine enter_call (codeAny_mono (call w s₀ s₁ mg mb fa o pm cd doc a vs ns G Y ho (fd_plain hd) hcd hmg hobj hints hlen hg) fun r s' hq => ?_)
 obtain ⟨rfl, h2, h3, h4⟩ := hq
 exact ⟨.inl ⟨.bool true, .bool true, [], rfl, fun _ => rfl, .bool true, Fe l _, fun _ => ⟨List.Pairwise.nil, fun _ hm => (nomatch hm)⟩⟩, h2, h3, h4⟩
section
variable {prog : Program} {w : World} {A : Around} {E : EV} {s : Shared} {K : Frag}
end
end Att
namespace L2
open PySem PySem.Spec PyProof.Rows
theorem wL : ∀ {vs : List Value} {ns : List Int}, IntsAre vs ns -> Vals (ns.map V.int) vs
 | _, _, .nil => .nil
 | _, _, .cons n t h => .cons ⟨t, rfl⟩ (wL h)
def Only (H : Hp) : Prop := ∀ b, H b = none \/ ∃ o xs, H b = some (.frz o (.lst xs))
theorem Ho {P : Program} {w : World} {K : Frag} {mg mb : MG} {CX : CXT} {k : Nat} {fa a : Addr} {fd : FuncData} {x : Str} {sp : Sp} {s₁ : Shared} {vs : List Value} {ns : List Int}
  (KX : K.In s₁.heap) (hns : s₁.heap.Ns mainGlobals mg) (hb : s₁.heap.Ns builtinsNs mb) (hbb : ∀ x : Str, x ≠ "__name__" -> mb x = bootBuiltins x) (hlim : s₁.heap.NoLimit) (hg : s₁.gens = #[])
  (ha : s₁.heap.get? a = some { cls := .type "list", data := .seq vs.toArray }) (hi : IntsAre vs ns) (hl : ns.length <= sizeLine) (hr : bh k callerA)
  (F : ∀ base : Heap, K.In base -> base.Ns mainGlobals mg -> aO P w K mg base CX k fa fd [x] sp) (hbind : ∀ (s : Shared) (u : Value), BindsTo s fd ⟨[u], []⟩ [(x, u)])
  (hsp : ∀ H : Hp, Only H -> SqL K H a (ns.map V.int) -> sp [.ref a] H (fun v _ => v = .bl true) fun _ _ _ => False)
  (hCX : ∀ H e s', CX [] H s₁ (fun _ _ _ => False) e s' -> False) :
  codeAny (model P w) callerA (.call (.ref fa) ⟨[.ref a], []⟩) (fun r s' => r = .ok (.ret (.bool true)) /\ OldK s₁.heap s'.heap /\ s'.os = s₁.os /\ AllBare s'.gens) s₁ := by
 have rv := wL hi
 have lenV := hi.length
 have core : ∀ H : Hp, Only H -> SqL K H a (ns.map V.int) -> HOk P w H s₁.heap -> (∀ b, H b ≠ none -> b = a) -> (H a ≠ none -> K.lookup a = none) ->
   codeAny (model P w) callerA (.call (.ref fa) ⟨[.ref a], []⟩) (fun r s' => r = .ok (.ret (.bool true)) /\ OldK s₁.heap s'.heap /\ s'.os = s₁.os /\ AllBare s'.gens) s₁ := by
  intro H hO hS hok hA hK
  have base_of : ∀ {b : Addr} {o : Obj}, s₁.heap.get? b = some o -> H b = none -> (yR s₁.heap H).get? b = some o := fun e n => Ht e n
  have noA : ∀ {b : Addr} {o : Obj} {es : Array DictEntry} {ep : Nat}, s₁.heap.get? b = some o -> o.data = .dict es ep -> H b = none := fun {b o es ep} e d => by
   cases q : H b with
   | none => rfl
   | some u =>
    have e' : b = a := hA b (by rw [q]; simp)
    subst e'
    rw [ha] at e; cases e
    have d' : Data.seq vs.toArray _ = Data.dict es ep := d
    cases d'
  have nsK : ∀ {b : Addr} {m : MG}, s₁.heap.Ns b m -> (yR s₁.heap H).Ns b m := fun {b m} ⟨o, es, ep, e, d, r⟩ => ⟨o, es, ep, base_of e (noA e d), d, r⟩
  have hKb : K.In (yR s₁.heap H) := fun b o e => base_of (KX b o e) (by
   cases q : H b with
   | none => rfl
   | some u =>
    have e' : b = a := hA b (by rw [q]; simp)
    subst e'
    rw [hK (by rw [q]; simp)] at e; cases e)
  have hM : Mod K mg (yR s₁.heap H) := ⟨hKb, nsK hns, ⟨mb, nsK hb, hbb⟩, let ⟨mc, h1, h2⟩ := hlim; ⟨mc, nsK h1, h2⟩⟩
  have e0 : yI P w K mg (yR s₁.heap H) callerA [] s₁ H := ⟨rfl, hM, fun b o e => JQ e, le_of_eq (Fd _ _), trivial, fun b hb => absurd (show b ∈ ([] : List Addr) from hb) Z2, hok, .of_eq hg⟩
  refine codeAny_mono ((F _ hKb (nsK hns)).run callerA [] s₁ H ⟨[.ref a], []⟩ [.ref a] [.ref a] _ _ hr e0 (hbind s₁ (.ref a)) (.cons rfl .nil) (hsp H hO hS)) fun r s' h => ?_
  cases r with
  | error e => exact (hCX H e s' h).elim
  | ok fl =>
   cases fl with
   | next => exact False.elim h
   | brk => exact False.elim h
   | cont => exact False.elim h
   | ret u =>
    obtain ⟨v, H', os, bare, un, hok', r', q⟩ := h
    have q' : v = .bl true := q
    subst q'
    obtain rfl : u = Value.bool true := r'
    refine ⟨rfl, OldK.of_keep fun b o e => ?_, os, bare⟩
    cases q : H b with
    | none => exact un.keep b o e q (by intro z; exact absurd (show b ∈ ([] : List Addr) from z) Z2) Z2
    | some u =>
     rcases hO b with z | ⟨ob, xs, z⟩
     ·rw [q] at z; cases z
     ·have z2 := un.frzs b ob _ z
      obtain ⟨e1, _⟩ := hok b _ z
      obtain ⟨e2, _⟩ := hok' b _ z2
      rw [e] at e1; cases e1
      exact e2
 cases hk : K.lookup a with
 | some o =>
  have e := KX a o hk
  rw [ha] at e
  cases e
  refine core (fun _ => none) (fun _ => .inl rfl) (.inr ⟨_, vs.toArray, _, hk, rfl, rfl, rfl, by rw [size_toArray, lenV]; exact hl, by simpa using rv⟩) (fun b u z => by have z' : (none : Option HO) = some u := z; cases z') (fun b z => absurd rfl z) fun z => absurd rfl z
 | none =>
  refine core (fun b => if b = a then some (.frz { cls := .type "list", data := .seq vs.toArray } (.lst (ns.map V.int))) else none) (fun b => ?_) (.inl (.inr ⟨{ cls := .type "list", data := .seq vs.toArray }, if_pos rfl⟩)) (fun b u z => ?_) (fun b z => ?_) fun _ => hk
  ·by_cases hb : b = a
   ·exact .inr ⟨_, _, if_pos hb⟩
   ·exact .inl (if_neg hb)
  ·by_cases hb : b = a
   ·have z' := (if_pos hb).symm.trans z
    cases z'
    subst hb
    exact ⟨ha, by rw [length_map]; exact hl, vs, _, rv, ha⟩
   ·have z' := (if_neg hb).symm.trans z
    cases z'
  ·by_cases hb : b = a
   ·exact hb
   ·exact absurd (if_neg hb) z
theorem Jz {l : OpenLaw} {n k : Nat} {q : Program} {loose : List Str} {XP : (Str -> Option Value) -> Heap -> Prop} {YP : World -> Heap -> Prop} {d : DefRec} {K : Params -> Frag} {CX : World -> CXT} {sp : World -> Sp} {x : Str}
  (hn : l.most = some n) (hn2 : n <= sizeLine) (hdf : d.params.defaults = []) (hr : bh k callerA)
  (hY : ∀ (w : World) (h : Heap), YP w h -> (K w.params).In h)
  (F : ∀ (w : World) (mg : MG) (fa : Addr) (h : Heap), (K w.params).In h -> h.Ns mainGlobals mg -> mg d.name = some (.ref fa) ->
   ∃ fd : FuncData, (∀ (s : Shared) (u : Value), BindsTo s fd ⟨[u], []⟩ [(x, u)]) /\
    ∀ base : Heap, (K w.params).In base -> base.Ns mainGlobals mg -> aO l.prog w (K w.params) mg base (CX w) k fa fd [x] (sp w))
  (hsp : ∀ (w : World) (H : Hp) (a : Addr) (ns : List Int), ns.length <= n -> Only H -> SqL (K w.params) H a (ns.map V.int) -> sp w [.ref a] H (fun v _ => v = .bl true) fun _ _ _ => False)
  (hCX : ∀ (w : World) (H : Hp) (s : Shared) (e : Value) (s' : Shared), CX w [] H s (fun _ _ _ => False) e s' -> False) :
  WalkO q loose XP YP l.row.toRowW d [] (fun f vs => PySem.call f vs) := by
 refine Att.attach_call hn hdf fun w s₀ s₁ mg mb fa o pm cd doc a vs ns G Y ho hd hcd hmg hobj hints hlen hg => ?_
 have KX := hY w _ Y
 obtain ⟨fd, hb, hF⟩ := F w mg fa _ KX G.T.g hmg
 exact Ho KX G.T.g G.T.b G.T.builtins G.T.nolimit hg hobj hints (le_trans hlen hn2) hr hF hb (fun H hO hS => hsp w H a ns hlen hO hS) fun H e s' => hCX w H s₁ e s'
def dg (s : Stmt) : Arguments := match s with
 | .FunctionDef _ a _ _ _ _ _ _ _ _ => a
 | _ => { posonlyargs := [], args := [], vararg := none, kwonlyargs := [], kw_defaults := [], kwarg := none, defaults := [] }
def cu (s : Stmt) : List Stmt := match s with
 | .FunctionDef _ _ b _ _ _ _ _ _ _ => b
 | _ => []
def aC (s : Stmt) : Scope := match s with
 | .FunctionDef _ _ _ _ _ _ sc _ _ _ => sc
 | _ => { kind := .function, names := [], isGenerator := false, isCoroutine := false }
abbrev CX0 : CXT := fun _ _ _ _ _ _ => False
abbrev E0 : XK := fun _ _ _ => False
theorem Dc {X : Cx} : nA CX0 X E0 := fun _ _ _ _ _ _ _ h => h.elim
structure Fun (K : Frag) (x qual : Str) (st : Stmt) (f : Addr) (fd : FuncData) : Prop where
 ex : ∃ (oc : Value) (od : Option Addr) (kV doc pm : Value) (an : Option Addr) (cdv ct : Value) (osl : Array (Option Value)),
  fd = fnOf x qual (dg st) (cu st) (aC st) .none kV doc pm an cdv ct /\ K.lookup f = some ⟨oc, od, .func fd, osl⟩ /\ codeIn K cdv qual = true
 kp : keepIn K (.ref f) = true
section
variable {P : Program} {w : World} {K : Frag} {mg : MG} {base : Heap}
theorem Fun.ok {x qual : Str} {st : Stmt} {f : Addr} {fd : FuncData} {N ps : List Str} {k : Nat} {sp : Sp} (F : Fun K x qual st f fd) (S : aK N ps (aC st)) (len : ∀ vs H Q E, sp vs H Q E -> vs.length = ps.length)
  (hbody : ∀ (cdv : Value) (A : Around) (outer : List Env) (s : Shared) (H : Hp) (vs : List V) (Q : VK) (E : XK), bh k (A.deeper (envOfC qual (aC st) s.heap.objs.size f cdv)) -> sp vs H Q E ->
   ∃ t, PSs (nj CX0 P w K mg base N qual (aC st) f cdv A outer s H E).nox (cu st) t /\ t { nx := fun _ H' => Q .non H', rt := Q } (start N vs) H) : aO P w K mg base CX0 (k + 1) f fd ps sp := by
 obtain ⟨oc, od, kV, doc, pm, an, cdv, ct, osl, rfl, lk, hcd⟩ := F.ex
 refine Kr lk hcd S len fun A outer s H vs Q E hr hsp => ?_
 obtain ⟨t, h, q⟩ := hbody cdv A outer s H vs Q E hr hsp
 exact ⟨t, h.nox, q⟩
theorem Fun.binds {x qual : Str} {st : Stmt} {f : Addr} {fd : FuncData} {ps : List Str} (F : Fun K x qual st f fd)
  (h : ∀ (kV doc pm : Value) (an : Option Addr) (cdv ct : Value) (us : List Value), us.length = ps.length -> bindArgs (fnOf x qual (dg st) (cu st) (aC st) .none kV doc pm an cdv ct) ⟨us, []⟩ = pure (ps.zip us)) : Binds K fd ps [] := by
 obtain ⟨oc, od, kV, doc, pm, an, cdv, ct, osl, rfl, lk, hcd⟩ := F.ex
 exact .all (h kV doc pm an cdv ct)
theorem Hy {x qual : Str} {st : Stmt} {f : Addr} {oc : Value} {od an : Option Addr} {osl : Array (Option Value)} {kV doc pm cdv ct : Value} (l : K.lookup f = some ⟨oc, od, .func (fnOf x qual (dg st) (cu st) (aC st) .none kV doc pm an cdv ct), osl⟩)
  (c : codeIn K cdv qual = true) (k : keepIn K (.ref f) = true) : Fun K x qual st f (fnOf x qual (dg st) (cu st) (aC st) .none kV doc pm an cdv ct) := ⟨⟨oc, od, kV, doc, pm, an, cdv, ct, osl, rfl, l, c⟩, k⟩
end
section
variable {X : Cx}
theorem pv (i : Nat) {x : Str} {pos : Pos} (hN : X.N[i]? = some x := by rfl) (hv : Vis X.env.scope x := by first | exact Or.inl rfl | exact Or.inr (Or.inl rfl) | exact Or.inr (Or.inr rfl)) (hd : (x == ("__debug__" : Str)) = false := by decide)
  (hcd : (x == ("__classdict__" : Str)) = false := by decide) : PE X (.Name x pos) (vm i) := KQ hN hv hd hcd
end
theorem bA {A B : Prop} (h : B) : if false = true then A else B := by
 rw [if_neg Bool.false_ne_true]
 exact h
theorem jo {A B : Prop} (h : A) : if true = true then A else B := by
 rw [if_pos rfl]
 exact h
def aB (H H' : Hp) : Prop := ∀ b o, H b = some o -> H' b = some o
theorem aB.refl (H : Hp) : aB H H := fun _ _ h => h
theorem aB.trans {H H1 H2 : Hp} (a : aB H H1) (b : aB H1 H2) : aB H H2 := fun c o h => b c o (a c o h)
theorem aB.free {H H' : Hp} (e : aB H H') {l : Addr} (h : H' l = Option.none) : H l = Option.none := by
 cases q : H l with
 | none => rfl
 | some o =>
  rw [e l o q] at h
  cases h
theorem aB.seq {K : Frag} {H H' : Hp} {a : Addr} {xs : List V} (e : aB H H') (h : SqL K H a xs) : SqL K H' a xs := by
 rcases h with (h | ⟨o, h⟩) | h
 ·exact .inl (.inl (e _ _ h))
 ·exact .inl (.inr ⟨o, e _ _ h⟩)
 ·exact .inr h
section
variable {κ : Type} [DecidableEq κ]
end
section
variable {P : Program} {w : World} {H : Hp} {h : Heap} {a : Addr}
end
section
variable {X : Cx} {pins : OP} {σ : St} {H : Hp} {s : Shared} {a : Addr} {y v : V} {u r : Value} {o : Option V} {A : Around} {E : EV}
theorem Inv.big (I : Inv X pins σ H s) : sysModules < s.heap.objs.size := by
 have h : mainGlobals < s.heap.objs.size := (I.mod.glob.keeps I.bk).lt
 exact Nat.lt_trans Z0 h
end
section
variable {X : Cx} {pins : OP} {σ : St} {H : Hp} {s : Shared} {a : Addr} {kvs : List (Key × V)} {k : Key} {u : Value} {A : Around} {E : EV}
end
section
variable {X : Cx} {o i e value : Expr} {pos pos' tpos : Pos} {td ty tv : TE}
end
theorem GD {P : Program} {w : World} {H : Hp} (h : Heap) (hb : sysModules < h.objs.size) : cT P w H (h.push { cls := .type "dict", data := .dict #[] }) h.objs.size (.dK []) :=
 ⟨zero_le _, beq_eq_false_iff_ne.mpr (Ne.symm (ne_of_lt hb)), [], .nil, Heap.DictOf.new h⟩
def KD : TE := fun _ H Q => ∀ p, H p = none -> Q (.ref p) (upd H p (.dK []))
section
variable {X : Cx} {pos : Pos}
theorem Hg : PE X (.Dict [] [] pos) KD := fun pins s σ H Q I h =>
 wpAny_Dict_empty ⟨.ref s.heap.objs.size, _, I.laid (a := s.heap.objs.size) (o := .dK []) (t' := s.toks) (fun _ _ q => Heap.get?_push_of_some _ q) (le_refl _) (GD s.heap I.big), rfl, h _ (I.hok.fresh (le_refl _))⟩
end
section
variable {X : Cx} {pins : OP} {σ : St} {H : Hp} {s : Shared} {a : Addr} {y d : V} {u r : Value} {o : Option V} {A : Around} {E : EV}
end
section
variable {X : Cx} {o e f : Expr} {apos cpos : Pos} {td ty tx : TE}
end
section
variable {X : Cx} {pins : OP} {σ : St} {H : Hp} {s : Shared} {a : Addr} {kvs : List (Key × V)} {A : Around} {E : EV}
end
section
variable {X : Cx} {pins : OP} {σ : St} {H : Hp} {s : Shared} {a : Addr} {y : V} {u : Value} {A : Around} {E : EV}
end
end L2
set_option maxHeartbeats 4000000
namespace Mine
open PySem PySem.Builtin PySem.Builtin.Str
theorem dR {a b : Str} (h : a.cps.toList = b.cps.toList) : a = b := by
 cases a; cases b
 exact congrArg Str.mk (Array.toList_inj.mp h)
theorem bQ (a : Str) : a.length = a.cps.toList.length := by simp [Str.length]
theorem dO (a b : Str) : (a ++ b).cps.toList = a.cps.toList ++ b.cps.toList := by
 show (a.cps ++ b.cps).toList = _
 simp
def inter (c : Nat) : List (List Nat) -> List Nat
 | [] => []
 | [x] => x
 | x :: y :: r => x ++ c :: inter c (y :: r)
theorem eG (c : Nat) : ∀ ys : List Str, (Str.join ⟨#[c]⟩ ys).cps.toList = inter c (ys.map (·.cps.toList))
 | [] => by simp [Str.join, inter, Str.empty]
 | [x] => rfl
 | x :: y :: r => by
  have ih := eG c (y :: r)
  show ((x ++ (⟨#[c]⟩ : Str)) ++ Str.join ⟨#[c]⟩ (y :: r)).cps.toList = _
  rw [dO, dO, ih]
  simp [inter]
theorem nO : ∀ ys : List Str, (Str.join ⟨#[]⟩ ys).cps.toList = (ys.map (·.cps.toList)).flatten
 | [] => by simp [Str.join, Str.empty]
 | [x] => by simp [Str.join]
 | x :: y :: r => by
  have ih := nO (y :: r)
  show ((x ++ (⟨#[]⟩ : Str)) ++ Str.join ⟨#[]⟩ (y :: r)).cps.toList = _
  rw [dO, dO, ih]
  simp
theorem zB {c : Nat} : ∀ {x y R S : List Nat}, c ∉ x -> c ∉ y -> (R = [] \/ ∃ r, R = c :: r) -> (S = [] \/ ∃ r, S = c :: r) -> x ++ R = y ++ S -> x = y /\ R = S
 | [], [], R, S, _, _, _, _, h => ⟨rfl, h⟩
 | [], b :: y, R, S, _, hy, hR, _, h => by
  rcases hR with rfl | ⟨r, rfl⟩
  ·cases h
  ·have e : c = b := (List.cons.inj h).1
   exact absurd (by rw [<- e]; exact mem_cons_self) hy
 | a :: x, [], R, S, hx, _, _, hS, h => by
  rcases hS with rfl | ⟨r, rfl⟩
  ·cases h
  ·have e : a = c := (List.cons.inj h).1
   exact absurd (by rw [e]; exact mem_cons_self) hx
 | a :: x, b :: y, R, S, hx, hy, hR, hS, h => by
  obtain ⟨e, h'⟩ := List.cons.inj h
  obtain ⟨e2, e3⟩ := zB (x := x) (y := y) (fun z => hx (mem_cons_of_mem _ z)) (fun z => hy (mem_cons_of_mem _ z)) hR hS h'
  exact ⟨by rw [e, e2], e3⟩
theorem pC (c : Nat) (x : List Nat) (r : List (List Nat)) : ∃ R, inter c (x :: r) = x ++ R /\ (R = [] \/ ∃ q, R = c :: q) /\ (R = [] ↔ r = []) /\ (∀ q, R = c :: q -> q = inter c r) := by
 cases r with
 | nil => exact ⟨[], by simp [inter], .inl rfl, Z2, fun q h => nomatch h⟩
 | cons y r => exact ⟨c :: inter c (y :: r), rfl, .inr ⟨_, rfl⟩, Z2, fun q h => (List.cons.inj h).2.symm⟩
theorem wQ {c : Nat} : ∀ {xs ys : List (List Nat)}, (∀ x ∈ xs, c ∉ x) -> (∀ y ∈ ys, c ∉ y) -> xs ≠ [] -> ys ≠ [] -> inter c xs = inter c ys -> xs = ys
 | [], _, _, _, h, _, _ => absurd rfl h
 | _, [], _, _, _, h, _ => absurd rfl h
 | x :: xs, y :: ys, hx, hy, _, _, h => by
  obtain ⟨R, e1, f1, g1, q1⟩ := pC c x xs
  obtain ⟨S, e2, f2, g2, q2⟩ := pC c y ys
  rw [e1, e2] at h
  obtain ⟨a, b⟩ := zB (hx x mem_cons_self) (hy y mem_cons_self) f1 f2 h
  subst a; subst b
  cases xs with
  | nil =>
   have : ys = [] := g2.mp (g1.mpr rfl)
   rw [this]
  | cons x' xs' =>
   have hR : R ≠ [] := fun z => by cases g1.mp z
   have hys : ys ≠ [] := fun z => hR (g2.mpr z)
   rcases f1 with z | ⟨q, z⟩
   ·exact absurd z hR
   ·have i1 := q1 q z
    have i2 := q2 q z
    rw [wQ (fun u hu => hx u (mem_cons_of_mem _ hu)) (fun u hu => hy u (mem_cons_of_mem _ hu)) Z2 hys (i1.symm.trans i2)]
theorem oO : ∀ {xs ys : List Str}, xs.map (·.cps.toList) = ys.map (·.cps.toList) -> xs = ys
 | [], [], _ => rfl
 | [], _ :: _, h => by cases h
 | _ :: _, [], h => by cases h
 | x :: xs, y :: ys, h => by
  obtain ⟨a, b⟩ := List.cons.inj h
  rw [dR a, oO b]
theorem nF (x y : Str) : Txt.split x y ≠ [] := by
 unfold Txt.split
 split
 ·simp
 ·split
  ·simp
  ·intro h
   have := congrArg List.length h
   rw [length_partsBetween] at this
   simp at this
theorem uV (c : Nat) (ys : List Str) (h0 : ys ≠ []) (hf : ∀ y ∈ ys, c ∉ y.cps.toList) : Txt.split (Str.join ⟨#[c]⟩ ys) ⟨#[c]⟩ = ys := by
 refine oO (wQ (c := c) ?_ ?_ ?_ ?_ ?_)
 ·intro x hx
  obtain ⟨z, hz, rfl⟩ := mem_map.mp hx
  exact StrLaws.split_free _ c z hz
 ·intro x hx
  obtain ⟨z, hz, rfl⟩ := mem_map.mp hx
  exact hf z hz
 ·intro h; exact nF _ _ (List.map_eq_nil_iff.mp h)
 ·intro h; exact h0 (List.map_eq_nil_iff.mp h)
 ·rw [<- eG, <- eG, StrLaws.join_split]
theorem join_snoc (s : Str) (b : Str) : ∀ xs : List Str, xs ≠ [] -> Str.join s (xs ++ [b]) = Str.join s xs ++ s ++ b
 | [], h => absurd rfl h
 | [x], _ => rfl
 | x :: y :: r, _ => by
  have ih := join_snoc s b (y :: r) Z2
  show x ++ s ++ Str.join s (y :: r ++ [b]) = (x ++ s ++ Str.join s (y :: r)) ++ s ++ b
  rw [ih]
  apply dR
  simp only [dO, append_assoc]
def qy : List Int := [48271, 1000003, 15485863, 32452843, 49979687, 67867967, 86028121, 104395301]
def qe : List Int := [179424673, 373587883, 573259391, 776531401, 982451653]
def Ko (c k many : Int) : Int := Builtin.bitAnd (c / 2 ^ (1 + 10 * k).toNat) 1023 % many
def zm (c k : Int) : Int := (c / 2 % 2305843009213693951 + 1) * (qy.getD (k % 8).toNat 0 * qe.getD (k / 8).toNat 0) % 2305843009213693951
def zN (c k : Int) : Int := zm c k * zm c k % 1000000000039
def G8 (c k many : Int) : Int := (zN c k + k + 1) * (zN c k / 10007 + 48271) % 67280421310721 / 31 % many
def pick (c k many : Int) : Int := if c % 2 = 1 /\ 0 < c / 2 ^ (400 : Int).toNat then Ko c k many else G8 c k many
theorem cP (c k : Int) {m : Int} (h : 0 < m) : 0 <= pick c k m := by
 unfold pick; split
 ·exact emod_nonneg _ Z1
 ·exact emod_nonneg _ Z1
theorem cN (c k : Int) {m : Int} (h : 0 < m) : pick c k m < m := by
 unfold pick; split
 ·exact emod_lt_of_pos _ h
 ·exact emod_lt_of_pos _ h
theorem Jl (c k : Int) : 0 <= zm c k := emod_nonneg _ Z0
theorem J2 (c k : Int) : zm c k < 2305843009213693951 := emod_lt_of_pos _ Z0
theorem Js (c k : Int) : 0 <= zN c k := emod_nonneg _ Z0
theorem Jk (c k : Int) : zN c k < 1000000000039 := emod_lt_of_pos _ Z0
theorem Jh {k : Int} (h0 : 0 <= k) (h1 : k < 8) : qy[k.toNat]? = some (qy.getD k.toNat 0) /\ 0 < qy.getD k.toNat 0 /\ qy.getD k.toNat 0 < 1000000000 := by
 have : ∀ n : Fin 8, qy[n.val]? = some (qy.getD n.val 0) /\ 0 < qy.getD n.val 0 /\ qy.getD n.val 0 < 1000000000 := by decide
 exact this ⟨k.toNat, Z1⟩
theorem JW {k : Int} (h0 : 0 <= k) (h1 : k < 5) : qe[k.toNat]? = some (qe.getD k.toNat 0) /\ 0 < qe.getD k.toNat 0 /\ qe.getD k.toNat 0 < 1000000000 := by
 have : ∀ n : Fin 5, qe[n.val]? = some (qe.getD n.val 0) /\ 0 < qe.getD n.val 0 /\ qe.getD n.val 0 < 1000000000 := by decide
 exact this ⟨k.toNat, Z1⟩
theorem DY {a b : Int} (ha : 0 < a) (ha' : a < 1000000000) (hb : 0 < b) (hb' : b < 1000000000) : 0 < a * b /\ a * b < 1000000000000000000 := by
 have h1 := Int.mul_pos ha hb
 have h2 : a * b <= 1000000000 * b := Int.mul_le_mul_of_nonneg_right Z1 Z1
 exact ⟨h1, Z1⟩
def Wn (c j : Int) : Int := Builtin.bitOr (c / 2 ^ (480 * j).toNat) 1
def subB (c j : Int) : Int := (c / 2 / (j + 1) + 104729 * j) * 2
def sub (c j : Int) : Int := if c % 2 = 1 /\ 0 < c / 2 ^ (480 * j + 400).toNat then Wn c j else subB c j
def number (c far : Int) : Int := if c % 2 = 1 /\ 0 < c / 2 ^ (400 : Int).toNat then c / 2 ^ (400 : Int).toNat % far else c / 2 % far
def letter (c j : Int) : Nat := 97 + (pick c (31 + j) 26).toNat
def oH (c : Int) : Nat := (1 + pick c 30 8).toNat
def rE (c : Int) : List Nat := (List.range (oH c)).map fun (j : Nat) => letter c (j : Int)
def name (c : Int) : Str := ⟨(rE c).toArray⟩
theorem Bw (c : Int) : 1 <= oH c := by unfold oH; have := cP c 30 (m := 8) Z0; omega
theorem By (c : Int) : oH c <= 8 := by unfold oH; have := cN c 30 (m := 8) Z0; omega
theorem rJ (c : Int) : (name c).length = oH c := by simp [name, rE, Str.length]
structure dq (x : Str) : Prop where
 lo : 1 <= x.length
 hi : x.length <= 8
 ok : ∀ n ∈ x.cps.toList, 97 <= n /\ n <= 122
theorem Ep (c : Int) : dq (name c) := by
 refine ⟨by rw [rJ]; exact Bw c, by rw [rJ]; exact By c, fun n hn => ?_⟩
 have hn' : n ∈ rE c := by simpa [name] using hn
 obtain ⟨j, _, rfl⟩ := mem_map.mp hn'
 have h1 := cP c (31 + (j : Int)) (m := 26) Z0
 have h2 := cN c (31 + (j : Int)) (m := 26) Z0
 unfold letter
 omega
theorem dq.nodot {x : Str} (h : dq x) : 46 ∉ x.cps.toList := fun z => by have := h.ok 46 z; omega
def letters : Str := "abcdefghijklmnopqrstuvwxyz"
theorem An {k : Int} (h0 : 0 <= k) (h1 : k < 26) : letters.cps.toList[k.toNat]? = some (97 + k.toNat) := by
 have : ∀ n : Fin 26, letters.cps.toList[n.val]? = some (97 + n.val) := by decide +kernel
 exact this ⟨k.toNat, Z1⟩
theorem yp (c : Int) (n : Nat) : Txt.join (⟨#[]⟩ : Str) ((List.range n).map fun (j : Nat) => (⟨#[letter c (j : Int)]⟩ : Str)) = ⟨((List.range n).map fun (j : Nat) => letter c (j : Int)).toArray⟩ := by
 show glued _ _ = _
 rw [StrLaws.glued_eq_join]
 apply dR
 rw [nO, map_map]
 have : ∀ l : List Nat, (l.map ((fun x : Str => x.cps.toList) ∘ fun (j : Nat) => (⟨#[letter c (j : Int)]⟩ : Str))).flatten = l.map fun (j : Nat) => letter c (j : Int) := by
  intro l
  induction l with
  | nil => rfl
  | cons a r ih => simp only [map_cons, flatten_cons, ih] <;> rfl
 rw [this]
theorem uO : (("." : Str)) = ⟨#[46]⟩ := by decide +kernel
theorem Gh : (("" : Str)) = ⟨#[]⟩ := by decide +kernel
def dotted (ys : List Str) : Str := Txt.join ("." : Str) ys
theorem gZ (ys : List Str) : dotted ys = Str.join ⟨#[46]⟩ ys := by
 unfold dotted
 rw [uO]
 exact StrLaws.glued_eq_join _ ys
theorem cC (ys : List Str) (h0 : ys ≠ []) (hn : ∀ y ∈ ys, dq y) : Txt.split (dotted ys) ("." : Str) = ys := by
 rw [gZ, uO]
 exact uV 46 ys h0 fun y hy => (hn y hy).nodot
theorem pD {ys : List Str} {n : Nat} (h : ∀ y ∈ ys, y.length <= n) : (ys.map (·.length)).sum <= ys.length * n := by
 induction ys with
 | nil => simp
 | cons y r ih =>
  have h1 := h y mem_cons_self
  have h2 := ih fun z hz => h z (mem_cons_of_mem _ hz)
  simp only [map_cons, List.sum_cons, length_cons, Nat.add_mul, Nat.one_mul]
  omega
theorem Aw (ys : List Str) : (dotted ys).length <= (ys.map (·.length)).sum + ys.length := by
 rw [gZ]
 have := StrLaws.join_length_le ⟨#[46]⟩ ys
 have e : (⟨#[46]⟩ : Str).length = 1 := rfl
 rw [e] at this
 omega
end Mine
namespace L2
open PySem PySem.Spec PyProof.Rows
section
variable {X : Cx}
def Kl (K : Frag) : List V -> Hp -> VK -> Prop := fun xs H Q => ∃ x t n b, xs = [x, .ty n] /\ nP K H x t /\ kitOne K t (.type n) = some b /\ Q (.bl b) H
theorem bN : fY X (.builtin "isinstance") (Kl X.K) := by
 intro pins s σ H xs us Q I r h
 obtain ⟨x, t, n, b, rfl, ty, e, q⟩ := h
 obtain ⟨u, u2, rfl, rx, ry⟩ := vals2 r
 cases (show u2 = Value.type n from ry)
 exact wR I rx ty e fun tk => ⟨.bl b, H, I.tok tk, rfl, q⟩
theorem bW {K : Frag} {n : String} : kitOne K (.type n) (.type n) = some true := by
 unfold kitOne
 rw [if_pos Z2]
theorem Dh {ys : List Str} : ∀ {us : List Value}, Vals (ys.map V.str) us -> StrsAre us ys := by
 induction ys with
 | nil => intro us r; rw [map_nil] at r; cases r; exact .nil
 | cons y ys ih =>
  intro us r
  rw [map_cons] at r
  cases r with
  | cons r1 r2 =>
   obtain ⟨t, e⟩ := r1
   subst e
   exact .cons y t (ih r2)
theorem vV : ∀ (l : List (Str × Tok)), Vals ((l.map (·.1)).map V.str) (strValues l)
 | [] => .nil
 | (y, t) :: l => .cons ⟨t, rfl⟩ (vV l)
def rJoin (K : Frag) : V -> List V -> Hp -> VK -> Prop := fun x vs H Q => ∃ sep p ys, x = .str sep /\ vs = [.ref p] /\ (SqL K H p (ys.map V.str) \/ SqT K H p (ys.map V.str)) /\
 (ys.map (·.length)).sum + ys.length * sep.length <= 16777216 /\ Q (.str (Txt.join sep ys)) H
theorem m6 : MtR X "str.join" (rJoin X.K) := by
 intro pins s σ H x vs v us Q I rx rv h
 obtain ⟨sep, p, ys, rfl, rfl, hq, hz, q⟩ := h
 obtain ⟨t, rfl⟩ := rx
 obtain ⟨u, rfl, ru⟩ := vals1 rv
 cases (show u = Value.ref p from ru)
 rcases hq with hq | hq
 ·obtain ⟨its, r, pl, _⟩ := I.list hq
  exact join_list pl.isList (by simpa using Dh r) hz fun t' k => ⟨.str _, H, I.tok k, ⟨t', rfl⟩, q⟩
 ·obtain ⟨its, r, pl, _⟩ := I.tuple hq
  exact join_tuple pl (by simpa using Dh r) hz fun t' k => ⟨.str _, H, I.tok k, ⟨t', rfl⟩, q⟩
def Lk : V -> List V -> Hp -> VK -> Prop := fun x vs H Q => ∃ z sep, x = .str z /\ vs = [.str sep] /\ (sep.length == 0) = false /\ z.length + 2 <= sizeLine /\
 ∀ p, H p = none -> Q (.ref p) (upd H p (.lst ((Txt.split z sep).map V.str)))
theorem gk (z sep : Str) (h : z.length + 2 <= sizeLine) : (Txt.split z sep).length <= sizeLine := by
 unfold Txt.split
 split
 ·simp; omega
 ·split
  ·simp; omega
  ·have e1 := StrLaws.occ_length_le z sep 0 z.length (z.length + 1)
   rw [length_partsBetween]; omega
theorem gW : MtR X "str.split" Lk := by
 intro pins s σ H x vs v us Q I rx rv h
 obtain ⟨z, sep, rfl, rfl, hy, hz, q⟩ := h
 obtain ⟨t, rfl⟩ := rx
 obtain ⟨u, rfl, ru⟩ := vals1 rv
 obtain ⟨t2, rfl⟩ := ru
 have fin : ∀ (l : List (Str × Tok)) (k : Nat), l.map (·.1) = Txt.split z sep ->
   EP X pins σ Q (.ref s.heap.objs.size) { s with heap := s.heap.push { cls := .type "list", data := .seq (strValues l).toArray }, toks := k } := fun l k e => by
  have hv := vV l
  rw [e] at hv
  exact ⟨.ref s.heap.objs.size, _, I.lnew hv (by rw [length_map]; exact gk z sep hz), rfl, q _ I.fresh⟩
 have few : (Builtin.Str.partsBetween z (Builtin.Str.occurrences z sep 0 z.length (z.length + 1)) sep.length).length <= sizeLine := by
  have e1 := StrLaws.occ_length_le z sep 0 z.length (z.length + 1)
  rw [length_partsBetween]; omega
 cases h1 : (decide (z.length < sep.length) || decide (Builtin.Str.strKind z < Builtin.Str.strKind sep))
 ·cases hf : (Builtin.Str.occurrences z sep 0 z.length (z.length + 1)).isEmpty
  ·refine call_meets F.slot_str_split (typeIs_str _ _ _) F.entry_str_split (F.args_str_split_2 _ _) (meets_str_split_sep z sep t t2 h1 hy hf Z1 few) ?_
   rw [strsFrom_eq]
   exact fin (numbered s.toks _) _ ((numbered_texts _ _).trans (by unfold Txt.split; rw [if_neg (by rw [h1]; exact Bool.false_ne_true), if_neg (by rw [hf]; exact Bool.false_ne_true)]))
  ·refine call_meets F.slot_str_split (typeIs_str _ _ _) F.entry_str_split (F.args_str_split_2 _ _) (meets_str_split_not_found z sep t t2 h1 hy hf) ?_
   exact fin [(z, t)] s.toks (by unfold Txt.split; rw [if_neg (by rw [h1]; exact Bool.false_ne_true), if_pos hf] <;> rfl)
 ·refine call_meets F.slot_str_split (typeIs_str _ _ _) F.entry_str_split (F.args_str_split_2 _ _) (meets_str_split_cannot_occur z sep t t2 h1) ?_
  exact fin [(z, t)] s.toks (by unfold Txt.split; rw [if_pos h1] <;> rfl)
end
theorem yP {env : Env} : ∀ (ns : List (Str × NameKind)) (acc : List (Str × Addr)), (∀ y ∈ ns, y.2 = .free -> ∃ c, env.cells.lookup y.1 = some c) -> (∀ p ∈ acc, env.cells.lookup p.1 = some p.2) ->
  ∃ cl : List (Str × Addr), (forIn ns acc fun (y : Str × NameKind) (cs : List (Str × Addr)) => (match y with
   | (name, kind) => if (kind == NameKind.free) = true then (do let c <- cellOf env name; pure (ForInStep.yield ((name, c) :: cs))) else pure (ForInStep.yield cs) : Sem (ForInStep (List (Str × Addr))))) = pure cl /\
   (∀ p ∈ cl, env.cells.lookup p.1 = some p.2) /\ (∀ p ∈ acc, p ∈ cl) /\ ∀ y ∈ ns, y.2 = .free -> ∃ c, (y.1, c) ∈ cl
 | [], acc, _, ha => ⟨acc, rfl, ha, fun _ h => h, fun _ h => nomatch h⟩
 | (n, k) :: r, acc, hn, ha => by
  have hr : ∀ y ∈ r, y.2 = .free -> ∃ c, env.cells.lookup y.1 = some c := fun y hy => hn y (mem_cons_of_mem _ hy)
  by_cases hk : k = NameKind.free
  ·subst hk
   obtain ⟨c, hc⟩ := hn (n, .free) mem_cons_self rfl
   have hc' : env.cells.lookup n = some c := hc
   obtain ⟨cl, e, h1, h2, h3⟩ := yP r ((n, c) :: acc) hr (fun p hp => by
    rcases mem_cons.mp hp with rfl | hp
    ·exact hc'
    ·exact ha p hp)
   refine ⟨cl, ?_, h1, fun p hp => h2 p (mem_cons_of_mem _ hp), fun y hy hf => ?_⟩
   ·rw [forIn_cons]
    have e1 : cellOf env n = pure c := by unfold cellOf; rw [hc']
    simp only [beq_self_eq_true, if_true, e1, pure_bind]
    exact e
   ·rcases mem_cons.mp hy with rfl | hy
    ·exact ⟨c, h2 _ mem_cons_self⟩
    ·exact h3 y hy hf
  ·obtain ⟨cl, e, h1, h2, h3⟩ := yP r acc hr ha
   refine ⟨cl, ?_, h1, h2, fun y hy hf => ?_⟩
   ·rw [forIn_cons]
    have hb : (k == NameKind.free) = false := by simpa using hk
    simp only [hb, Bool.false_eq_true, if_false, pure_bind]
    exact e
   ·rcases mem_cons.mp hy with rfl | hy
    ·exact absurd hf hk
    ·exact h3 y hy hf
theorem vY {α : Type} : ∀ {l : List (Str × α)} {x : Str} {c : α}, (x, c) ∈ l -> ∃ d, l.lookup x = some d
 | [], _, _, h => nomatch h
 | (y, d) :: r, x, c, h => by
  by_cases e : x = y
  ·subst e; exact ⟨d, by simp [lookup_cons]⟩
  ·have hb : (x == y) = false := by simpa using e
   rcases mem_cons.mp h with z | z
   ·cases z; exact absurd rfl e
   ·obtain ⟨d', h'⟩ := vY z
    exact ⟨d', by simp only [lookup_cons, hb]; exact h'⟩
theorem Jy {scope : Scope} {env : Env} (h : ∀ y ∈ scope.names, y.2 = .free -> ∃ c, env.cells.lookup y.1 = some c) :
  ∃ cl : List (Str × Addr), closureFor scope env = pure cl /\ (∀ x c, cl.lookup x = some c -> env.cells.lookup x = some c) /\ ∀ x, (x, NameKind.free) ∈ scope.names -> ∃ c, cl.lookup x = some c := by
 obtain ⟨cl, e, h1, _, h3⟩ := yP (env := env) scope.names [] h (fun p hp => nomatch hp)
 refine ⟨cl, ?_, fun x c q => h1 (x, c) (PySem.mem_of_lookup q), fun x hx => ?_⟩
 ·simp only [closureFor]
  simp only [bind_pure]
  exact e
 ·obtain ⟨c, hc⟩ := h3 (x, .free) hx rfl
  exact vY hc
def oZ (osc sc : Scope) (oN : List Str) : List (Option Nat) -> List Str -> Bool
 | [], [] => true
 | none :: r, _ :: n => oZ osc sc oN r n
 | some k :: r, x :: n => (oN[k]? == some x) && (sc.names.lookup x == some .free) && oZ osc sc oN r n
 | _, _ => false
theorem uL {osc sc : Scope} {oN : List Str} : ∀ {ix : List (Option Nat)} {N : List Str}, oZ osc sc oN ix N = true -> ix.length = N.length
 | [], [], _ => rfl
 | none :: _, _ :: _, h => congrArg (· + 1) (uL (by simpa [oZ] using h))
 | some _ :: _, _ :: _, h => congrArg (· + 1) (uL (by simp [oZ] at h; exact h.2))
 | [], _ :: _, h => by simp [oZ] at h
 | none :: _, [], h => by simp [oZ] at h
 | some _ :: _, [], h => by simp [oZ] at h
theorem xM {osc sc : Scope} {oN : List Str} : ∀ {ix : List (Option Nat)} {N : List Str} (i k : Nat), oZ osc sc oN ix N = true -> ix[i]? = some (some k) -> ∃ x, N[i]? = some x /\ oN[k]? = some x /\ sc.names.lookup x = some .free
 | [], _, _, _, _, e => by simp at e
 | none :: _, [], _, _, h, _ => by simp [oZ] at h
 | some _ :: _, [], _, _, h, _ => by simp [oZ] at h
 | none :: r, x :: n, 0, _, _, e => by simp at e
 | none :: r, x :: n, i + 1, k, h, e => by
  obtain ⟨y, h1, h2⟩ := xM (ix := r) (N := n) i k (by simpa [oZ] using h) (by simpa using e)
  exact ⟨y, by simpa using h1, h2⟩
 | some j :: r, x :: n, 0, k, h, e => by
  simp [oZ] at h
  simp at e
  subst e
  exact ⟨x, Z2, h.1.1, h.1.2⟩
 | some j :: r, x :: n, i + 1, k, h, e => by
  simp [oZ] at h
  obtain ⟨y, h1, h2⟩ := xM (ix := r) (N := n) i k h.2 (by simpa using e)
  exact ⟨y, by simpa using h1, h2⟩
def nQ (osc : Scope) (oN N : List Str) (ix : List (Option Nat)) (sc : Scope) : Bool :=
 (sc.kind == .function) && sc.names.all (fun y => (y.2 != .cell) && ((y.2 != .local) || (sc.names.lookup y.1 == some .local)) && ((y.2 != .free) || ((osc.names.lookup y.1 == some .cell) || (osc.names.lookup y.1 == some .free)))) && oZ osc sc oN ix N
theorem uY {env : Env} : ∀ {names : List (Str × NameKind)} {x : Str}, names.lookup x = some .free ->
  (names.map fun (n, k) => if (k == NameKind.free && env.scope.kind == .function && env.kindOf n == some .cell) then (n, NameKind.cell) else (n, k)).lookup x = some .cell \/
  (names.map fun (n, k) => if (k == NameKind.free && env.scope.kind == .function && env.kindOf n == some .cell) then (n, NameKind.cell) else (n, k)).lookup x = some .free
 | [], _, h => by simp at h
 | (n, k) :: r, x, h => by
  have ih := @uY env r x
  simp only [map_cons]
  cases hx : x == n with
  | true =>
   simp only [lookup_cons, hx] at h
   cases h
   by_cases hc : (NameKind.free == NameKind.free && env.scope.kind == .function && env.kindOf n == some .cell) = true
   ·left; rw [if_pos hc]; simp only [lookup_cons, hx]
   ·right; rw [if_neg hc]; simp only [lookup_cons, hx]
  | false =>
   simp only [lookup_cons, hx] at h
   by_cases hc : (k == NameKind.free && env.scope.kind == .function && env.kindOf n == some .cell) = true
   ·rw [if_pos hc]; simp only [lookup_cons, hx]; exact ih h
   ·rw [if_neg hc]; simp only [lookup_cons, hx]; exact ih h
theorem u9 {env : Env} : ∀ {names : List (Str × NameKind)} {x : Str}, (∀ y ∈ names, y.2 ≠ NameKind.cell) ->
  ((names.map fun (n, k) => if (k == NameKind.free && env.scope.kind == .function && env.kindOf n == some .cell) then (n, NameKind.cell) else (n, k)).lookup x = some .cell \/
  (names.map fun (n, k) => if (k == NameKind.free && env.scope.kind == .function && env.kindOf n == some .cell) then (n, NameKind.cell) else (n, k)).lookup x = some .free) -> (x, NameKind.free) ∈ names
 | [], _, _, h => by simp at h
 | (n, k) :: r, x, hn, h => by
  have ih := @u9 env r x fun y hy => hn y (mem_cons_of_mem _ hy)
  simp only [map_cons] at h
  by_cases hc : (k == NameKind.free && env.scope.kind == .function && env.kindOf n == some .cell) = true
  ·rw [if_pos hc] at h
   cases hx : x == n with
   | true =>
    have e : x = n := by simpa using hx
    have e2 : k = NameKind.free := by simp at hc; exact hc.1.1
    subst e; subst e2
    exact mem_cons_self
   | false =>
    simp only [lookup_cons, hx] at h
    exact mem_cons_of_mem _ (ih h)
  ·rw [if_neg hc] at h
   cases hx : x == n with
   | true =>
    have e : x = n := by simpa using hx
    subst e
    simp only [lookup_cons, hx] at h
    rcases h with h | h
    ·cases h; exact absurd rfl (hn (x, .cell) mem_cons_self)
    ·cases h; exact mem_cons_self
   | false =>
    simp only [lookup_cons, hx] at h
    exact mem_cons_of_mem _ (ih h)
def blk (X : Cx) (N : List Str) (sc : Scope) (cl : List (Str × Addr)) (C : Addr) (fp : List Addr) (s : Shared) (H : Hp) : Cx :=
 { X with N := N, s₀ := s, H₀ := H, env := compEnvC sc cl C X.env, outer := X.stack, ex := fp, fn := fun _ => false, pn := [], xe := fun _ _ => False }
def lift (ix : List (Option Nat)) (σ : St) : St := ix.map fun o => o.bind fun k => (σ[k]?).bind id
def PF (X : Cx) (ifs : List Expr) (t : TT) : Prop :=
 ∀ (pins : OP) (s : Shared) (σ : St) (H : Hp) (Q : Bool -> Hp -> Prop), Inv X pins σ H s -> t σ H Q ->
  wpAny (model X.prog X.w) X.A (forIn ifs true fun c r => if r = true then do let ok <- isTrue c X.env (eval c X.env); pure (ForInStep.yield ok) else pure (ForInStep.yield r)) (TP X pins σ Q) X.xe s
def oY : TT := fun _ H Q => Q true H
theorem fL {X : Cx} : PF X [] oY := fun pins s σ H Q I h => wpAny_tests_nil ⟨H, I, h⟩
theorem Ld {X : Cx} {c : Expr} {t : TT} (hc : PT X c t) : PF X [c] t := fun pins s σ H Q I h => wpAny_tests_one (hc pins s σ H Q I h)
def nT (g : TG) (tf : TT) (te : TE) (J : It) (σ0 : St) (H1 : Hp) (Fin : List V -> Hp -> Prop) : Prop :=
 ∃ W : Nat -> Nat -> St -> List V -> Hp -> Prop, (∃ m, W 0 m σ0 [] H1) /\ ∀ i m τ ys H, W i m τ ys H ->
  (J.stop i H /\ Fin ys H) \/ (J.go i H /\ ∀ x H', J.yld i H x H' -> g x τ H' fun τ2 H2 => tf τ2 H2 fun b H3 =>
   if b = true then te τ2 H3 fun y H4 => ys.length < sizeLine /\ ∃ m', m' < m /\ W (i + 1) m' τ2 (ys ++ [y]) H4 else ∃ m', m' < m /\ W (i + 1) m' τ2 ys H3)
def Cw (ix : List (Option Nat)) (wi : TI) (g : TG) (tf : TT) (te : TE) : TE := fun σ H Q => wi σ H fun J H1 => nT g tf te J (lift ix σ) H1 fun ys H' => ∀ p, H' p = none -> Q (.ref p) (upd H' p (.lst ys))
theorem RD {P : Program} {w : World} {A : Around} {R : Result -> Shared -> Prop} {s : Shared} {el tg src : Expr} {fs : List Expr} {sc : Scope} {ps : Pos} {iv ac : Value} {en : Env} (J : Nat -> Shared -> Prop)
  (turn : ∀ n s, J n s -> wpAny (model P w) A (pyNext iv) (fun r s1 => match r with
   | none => R (.ok .next) s1
   | some v => wpAny (model P w) A (letOwnedTupleGo tg iv v) (fun _ s2 => wpAny (model P w) A (assign tg en v) (fun _ s3 =>
     wpAny (model P w) A (forIn fs true fun c r => if r = true then do let ok <- isTrue c en (eval c en); pure (ForInStep.yield ok) else pure (ForInStep.yield r)) (fun ok s4 =>
      if ok = true then wpAny (model P w) A (eval el en) (fun x s5 => wpAny (model P w) A (call (.builtin "list.append") [ac, x]) (fun _ s6 => ∃ m, m < n /\ J m s6) (fun _ _ => False) s5) (fun _ _ => False) s4
      else ∃ m, m < n /\ J m s4) (fun _ _ => False) s3) (fun _ _ => False) s2) (fun _ _ => False) s1) (fun _ _ => False) s)
  (n : Nat) (h : J n s) : codeAny (model P w) A (.compLoop (.ListComp el [⟨tg, src, fs, 0⟩] sc ps) 0 iv ac en) R s := by
 have ab : ∀ {α : Type} {t : Sem α} {Q Q' : α -> Shared -> Prop} {E : EV} {s : Shared}, wpAny (model P w) A t Q (fun _ _ => False) s -> (∀ a s, Q a s -> Q' a s) -> wpAny (model P w) A t Q' E s :=
  fun h hq => wpAny_mono h hq fun _ _ f => f.elim
 refine codeAny_loop rfl J (fun n s hJ => ?_) n h
 show wpAny _ A ((compTurn (.ListComp el [⟨tg, src, fs, 0⟩] sc ps) 0 iv ac en).onRaise (fun x => do noteFrame x en; theTreesLotGoes x)) _ _ s
 refine wpAny_noted ?_
 rw [compTurn_list]
 refine wpAny_bind (wpAny_standAt (wpAny_bind (ab (turn n s hJ) fun r s1 h1 => ?_)))
 cases r with
 | none => exact wpAny_pure h1
 | some v =>
  refine wpAny_bind (ab h1 fun _ s2 h2 => wpAny_bind (ab h2 fun _ s3 h3 => wpAny_bind (ab h3 fun ok s4 h4 => ?_)))
  cases ok with
  | false => exact wpAny_pure ⟨rfl, h4⟩
  | true => exact wpAny_bind (wpAny_bind (ab h4 fun x s5 h5 => wpAny_bind (ab h5 fun _ s6 h6 => wpAny_pure (wpAny_pure ⟨rfl, h6⟩))))
section
variable {X : Cx} {pins : OP} {σ : St} {H2 : Hp} {s2 : Shared} {N : List Str} {ix : List (Option Nat)} {sc : Scope} {cl : List (Str × Addr)}
theorem Lj (I : Inv X pins σ H2 s2) (hb : nQ X.env.scope X.N N ix sc = true) (c1 : ∀ x c, cl.lookup x = some c -> X.env.cells.lookup x = some c) (c2 : ∀ x, (x, NameKind.free) ∈ sc.names -> ∃ c, cl.lookup x = some c)
  {fp : List Addr} (hf : ∀ b ∈ fp, ud X pins H2 b) (hfo : ∀ b ∈ fp, ∃ o, s2.heap.get? b = some o) {C : Addr} (hC : s2.heap.objs.size <= C) : (blk X N sc cl C fp s2 H2).Ok := by
 unfold nQ at hb
 simp only [and_eq_true] at hb
 obtain ⟨⟨hk, hn⟩, hi⟩ := hb
 have nocell : ∀ y ∈ sc.names, y.2 ≠ NameKind.cell := fun y hy => by
  have := all_eq_true.mp hn y hy
  simp only [and_eq_true] at this
  simpa using this.1.1
 refine ⟨I.ok.mod, ?_, I.ok.glob, I.ok.blt, hC, fun x y c h1 h2 => I.ok.inj x y c (c1 x c h1) (c1 y c h2), fun x hx => ?_, fun x c hx => ?_, I.ok.hd, I.ok.frames, .inl rfl, fun b hb => ⟨?_, fun x c h => ?_⟩, I.bs, le_trans I.ok.bsz I.sz, fun b o e hb => ?_, fun b hb hs => ?_, I.stack, I.stkFree⟩
 ·show (relabel sc X.env).kind = .function
  exact eq_of_beq hk
 ·exact c2 x (u9 nocell hx)
 ·cases hx
 ·show b ≠ C
  obtain ⟨o, e⟩ := hfo b hb
  exact ne_of_lt (lt_of_lt_of_le (Heap.lt_size e) hC)
 ·obtain ⟨_, _, _, _, h5, _⟩ := hf b hb
  exact h5 x c (c1 x c h)
 ·obtain ⟨_, _, _, h4, _, _⟩ := hf b hb
  rcases h4 with h4 | h4
  ·exact I.ok.noex b o e h4
  ·exact absurd (lt_of_lt_of_le (Heap.lt_size (I.ok.bs b o e).1) h4) (lt_irrefl _)
 ·obtain ⟨_, h2, h3, _⟩ := hf b hb
  rcases mem_cons.mp (I.stkSub b hs) with z | z
  ·exact h2 z
  ·exact h3 z
theorem Un.grow {fs ex : List Addr} {H H' : Hp} {h h' : Heap} {D : Addr} {o : HO} (u : Un fs ex H H' h h') (hD : h.objs.size <= D) (hn : H D = none) : Un fs ex H (upd H' D o) h h' := by
 have lt : ∀ {b : Addr} {ob : Obj}, h.get? b = some ob -> b ≠ D := fun e z => by
  subst z; exact absurd (lt_of_lt_of_le (Heap.lt_size e) hD) (lt_irrefl _)
 refine ⟨u.keep, u.slot, fun b ob e n hx => by rw [aR (lt e)]; exact u.free b ob e n hx, u.there, fun b xs e => ?_, fun b ob v e => ?_, fun b ps e => ?_⟩
 ·rw [aR (aQ e hn)]; exact u.tups b xs e
 ·rw [aR (aQ e hn)]; exact u.frzs b ob v e
 ·obtain ⟨m, q⟩ := u.tbls b ps e
  exact ⟨m, by rw [aR (aQ e hn)]; exact q⟩
theorem HOk.grow {P : Program} {w : World} {H : Hp} {h : Heap} {D : Addr} {o : HO} (x : HOk P w H h) (hn : H D = none) (new : cT P w (upd H D o) h D o) : HOk P w (upd H D o) h := fun b u e => by
 by_cases hb : b = D
 ·subst hb; rw [ao] at e; cases e; exact new
 ·rw [aR hb] at e
  exact (x b u e).stay (fun _ _ _ q => q) (fun c q => by rw [aR (aQ q hn)]; exact q) fun c xs q => by rw [aR (aQ q hn)]; exact q
theorem Il {ix : List (Option Nat)} {σ : St} {i : Nat} {v : V} (h : (lift ix σ)[i]? = some (some v)) : ∃ k, ix[i]? = some (some k) /\ σ[k]? = some (some v) := by
 unfold lift at h
 rw [getElem?_map] at h
 cases e : ix[i]? with
 | none => rw [e] at h; cases h
 | some o =>
  rw [e] at h
  cases o with
  | none => simp at h
  | some k =>
   refine ⟨k, rfl, ?_⟩
   simp only [Option.map_some, bind_some, Option.some.injEq] at h
   cases q : σ[k]? with
   | none => rw [q] at h; cases h
   | some z => rw [q] at h; have h' : z = some v := h; rw [h']
theorem wH {el tg src : Expr} {ifs : List Expr} {pos : Pos} {g : TG} {tf : TT} {te : TE} {J : It} {fp : List Addr} {it : Addr} {tn : Nat -> Heap -> Prop} {E : EV} {Fin : List V -> Hp -> Prop} {RR : Value -> Addr -> Result -> Shared -> Prop}
  (I : Inv X pins σ H2 s2) (hc : X.calm = true) (hb : nQ X.env.scope X.N N ix sc = true) (c1 : ∀ x c, cl.lookup x = some c -> X.env.cells.lookup x = some c) (c2 : ∀ x, (x, NameKind.free) ∈ sc.names -> ∃ c, cl.lookup x = some c)
  (T : Turn X.prog X.w X.K tg J fp it tn) (st : tn 0 s2.heap) (hf : ∀ b ∈ fp, ud X pins H2 b)
  (hg : ∀ C fp, PG (blk X N sc cl C fp s2 H2) tg g) (hfs : ∀ C fp, PF (blk X N sc cl C fp s2 H2) ifs tf) (he : ∀ C fp, PE (blk X N sc cl C fp s2 H2) el te)
  (hW : nT g tf te J (lift ix σ) H2 Fin)
  (hRR : ∀ D C s' ys H', H' D = none -> (∃ m, s'.heap.Ns C m) -> Inv X pins σ (upd H' D (.lst ys)) s' -> ud X pins (upd H' D (.lst ys)) C -> Fin ys H' -> RR (.ref D) C (.ok .next) s') :
  wpAny (model X.prog X.w) X.A (newList []) (fun acc s3 => wpAny (model X.prog X.w) X.A (newFunctionEnv sc X.env.globals cl [] X.env.qual none .none (some X.env)) (fun cenv s4 =>
   codeAny (model X.prog X.w) X.A (.compStart (.ListComp el [⟨tg, src, ifs, 0⟩] sc pos) 0 (.ref it) acc { cenv with scope := relabel sc X.env }) (RR acc cenv.locals) s4) E s3) E s2 := by
 obtain ⟨W, ⟨m0, w0⟩, turn⟩ := hW
 have hb' := hb
 unfold nQ at hb'
 simp only [and_eq_true] at hb'
 obtain ⟨⟨hk, hn⟩, hi⟩ := hb'
 have nocell : ∀ y ∈ sc.names, y.2 ≠ NameKind.cell := fun y hy => by
  have := all_eq_true.mp hn y hy
  simp only [and_eq_true] at this
  simpa using this.1.1
 have hkind : sc.kind = .function := eq_of_beq hk
 refine wpAny_newObj_type (wpAny_newFunctionEnv nocell (by intro y hy; simp at hy) (fun h1 hns hsb => ?_) hkind)
 dsimp only at hns hsb ⊢
 generalize hP : s2.heap.push { cls := .type "list", dict := none, data := .seq ([] : List Value).toArray } = P2 at hns hsb ⊢
 have hC : P2.objs.size = s2.heap.objs.size + 1 := by rw [<- hP, Heap.size_push]
 have hDC : s2.heap.objs.size ≠ P2.objs.size := by rw [hC]; exact ne_of_lt (Nat.lt_succ_self _)
 have hCle : s2.heap.objs.size <= P2.objs.size := by rw [hC]; omega
 have fpo : ∀ b ∈ fp, ∃ o, s2.heap.get? b = some o := fun b hb => let ⟨o, e, _⟩ := T.obj _ _ st b hb; ⟨o, e⟩
 have old : ∀ b o, s2.heap.get? b = some o -> h1.get? b = some o := fun b o e => by
  refine (hsb.2 b ?_).trans (Heap.get?_push_of_some _ (hP ▸ Heap.get?_push_of_some _ e))
  rw [hC]; exact ne_of_lt (Nat.lt_succ_of_lt (Heap.lt_size e))
 have hacc : h1.get? s2.heap.objs.size = some { cls := .type "list", dict := none, data := .seq ([] : List Value).toArray } :=
  (hsb.2 _ hDC).trans (Heap.get?_push_of_some _ (hP ▸ Heap.get?_push_size _ rfl))
 have bok : (blk X N sc cl P2.objs.size fp s2 H2).Ok := Lj I hb c1 c2 hf fpo hCle
 have frD : ∀ {b : Addr}, s2.heap.objs.size <= b -> b ∉ frs X.stack := fun hb hz => by
  rcases mem_cons.mp (I.stkSub _ hz) with z | z
  ·exact absurd (z ▸ hb) (Nat.not_le.mpr I.lt)
  ·exact I.nofs hb z
 have cellD : ∀ x c, cl.lookup x = some c -> c < s2.heap.objs.size := fun x c e => by
  obtain ⟨v, q⟩ := I.cell x c (c1 x c e)
  exact q.lt
 have I0 : Inv (blk X N sc cl P2.objs.size fp s2 H2) [(s2.heap.objs.size, { cls := .type "list", dict := none, data := .seq ([] : List Value).toArray })] (lift ix σ) H2 { s2 with heap := h1, toks := s2.toks + ([] : List (Str × Value)).length } := by
  refine ⟨bok, rfl, I.bare, Un.kept old, ⟨_, hns, fun i x v e1 e2 e3 => ?_⟩, fun x c e => ?_, I.hok.fresh hCle, fun x c e => I.freeC x c (c1 x c e), fun p hp => ?_, I.hok.kept old, ?_⟩
  ·obtain ⟨k, q1, q2⟩ := Il e2
   obtain ⟨y, z1, z2, z3⟩ := xM i k hi q1
   have e1' : N[i]? = some x := e1
   rw [e1'] at z1
   cases z1
   have hin : (x, NameKind.free) ∈ sc.names := PySem.mem_of_lookup z3
   obtain ⟨c, hcl⟩ := c2 x hin
   have okind : X.env.scope.names.lookup x = some .cell \/ X.env.scope.names.lookup x = some .free := by
    have := all_eq_true.mp hn _ hin
    simp only [and_eq_true] at this
    simpa using this.2
   obtain ⟨m, hm, hl⟩ := I.loc
   obtain ⟨u, r, l⟩ := hl k x v z2 q2 (by rcases okind with z | z; exact .inr (.inl z); exact .inr (.inr z))
   refine ⟨u, r, .inr ⟨uY z3, c, hcl, ?_⟩⟩
   rcases l with ⟨lk, _⟩ | ⟨_, c', hc', z⟩
   ·have lk' : X.env.scope.names.lookup x = some .local := lk
    rcases okind with q | q <;> rw [q] at lk' <;> cases lk'
   ·rw [c1 x c hcl] at hc'
    cases hc'
    obtain ⟨oc, ho, hd⟩ := z
    exact ⟨oc, old _ _ ho, hd⟩
  ·obtain ⟨v, oc, ho, hd⟩ := I.cell x c (c1 x c e)
   exact ⟨v, oc, old _ _ ho, hd⟩
  ·have hp' : p = (s2.heap.objs.size, { cls := .type "list", dict := none, data := .seq ([] : List Value).toArray }) := by
    rcases mem_append.mp hp with z | z
    ·exact absurd (show p ∈ ([] : OP) from z) Z2
    ·simpa using z
   subst hp'
   exact ⟨hacc, I.fresh, hDC, frD (le_refl _), fun v z => by cases z⟩
  ·show (lift ix σ).length = N.length
   unfold lift
   rw [length_map]
   exact uL hi
 have stat : ∀ {o : Obj} {H' : Hp}, (∀ b ∈ fp, H' b = none) -> ∀ b ∈ fp, ud (blk X N sc cl P2.objs.size fp s2 H2) [(s2.heap.objs.size, o)] H' b := fun {o H'} hz b hb => by
  obtain ⟨_, g2, g3, g4, g5, g6⟩ := hf b hb
  obtain ⟨ob, eb⟩ := fpo b hb
  have lb := Heap.lt_size eb
  refine ⟨hz b hb, ?_, ?_, .inl hb, fun x c e => g5 x c (c1 x c e), fun p hp => ?_⟩
  ·show b ≠ P2.objs.size
   rw [hC]; exact ne_of_lt (Nat.lt_succ_of_lt lb)
  ·intro hz
   rcases mem_cons.mp (I.stkSub b hz) with z | z
   ·exact g2 z
   ·exact g3 z
  ·have hp' : p = (s2.heap.objs.size, o) := by
    rcases mem_append.mp hp with z | z
    ·exact absurd (show p ∈ ([] : OP) from z) Z2
    ·simpa using z
   subst hp'
   show s2.heap.objs.size ≠ b
   exact ne_of_gt lb
 have loop : ∀ s4 : Shared, s4 = { s2 with heap := h1, toks := s2.toks + ([] : List (Str × Value)).length } ->
   codeAny (model X.prog X.w) X.A (.compLoop (.ListComp el [⟨tg, src, ifs, 0⟩] sc pos) 0 (.ref it) (.ref s2.heap.objs.size) (compEnvC sc cl P2.objs.size X.env)) (RR (.ref s2.heap.objs.size) P2.objs.size) s4 := by
  rintro s4 rfl
  refine RD (fun n s' => ∃ (i : Nat) (τ : St) (ys : List V) (its : List Value) (k : Nat) (H' : Hp), Vals ys its /\ ys.length <= sizeLine /\
    Inv (blk X N sc cl P2.objs.size fp s2 H2) [(s2.heap.objs.size, { cls := .type "list", data := .seq its.toArray k })] τ H' s' /\ tn i s'.heap /\ (∀ b ∈ fp, H' b = none) /\ W i n τ ys H') ?_ m0
   ⟨0, _, [], [], 0, H2, .nil, zero_le _, I0, T.keep _ _ _ st fun b _ o e => old b o e, fun b hb => (hf b hb).1, w0⟩
  rintro n s5 ⟨i, τ, ys, its, k, H5, rv, hz, I5, st5, fr5, w5⟩
  rcases turn i n τ ys H5 w5 with ⟨stop, fin⟩ | ⟨go, step⟩
  ·refine thn (T.done (blk X N sc cl P2.objs.size fp s2 H2) rfl rfl rfl hc i _ s5 τ H5 (fun _ _ => False) I5 (stat fr5) st5 stop) fun r s6 ⟨hr, I6⟩ => ?_
   subst hr
   obtain ⟨m, hns6, _⟩ := I6.loc
   obtain ⟨gD, fD, _, _, _⟩ := I6.pin (s2.heap.objs.size, { cls := .type "list", data := .seq its.toArray k }) (mem_append_right _ Z2)
   have fD' : H5 s2.heap.objs.size = none := fD
   refine hRR _ _ s6 ys H5 fD' ⟨m, hns6⟩ ?_ (I.fpOk hCle ?_) fin
   ·refine I.call' (ch := fp) I6.os (Un.grow I6.base (le_refl _) I.fresh) (HOk.grow I6.hok fD' ⟨hz, its, k, rv, gD⟩) I6.bare fun b hb => ?_
    obtain ⟨_, g2, _, g4, g5, g6⟩ := hf b hb
    exact ⟨g4, g2, g5, g6⟩
   ·rw [aR (Ne.symm hDC)]
    exact I6.free
  ·refine thn (T.item (blk X N sc cl P2.objs.size fp s2 H2) rfl rfl rfl hc i _ s5 τ H5 (fun _ _ => False) I5 (stat fr5) st5 go) fun r s6 ⟨u, hr, h6⟩ => ?_
   subst hr
   refine thn h6 fun _ s7 ⟨x, H7, I7, r7, y7, st7, fr7⟩ => ?_
   have I7' := I7.pinned (stat fr7) (T.obj _ _ st7)
   refine thn (hg _ _ _ s7 τ H7 x u _ I7' r7 (step x H7 y7)) fun _ s8 ⟨τ8, H8, I8, q8⟩ => ?_
   refine thn (hfs _ _ _ s8 τ8 H8 _ I8 q8) fun ok s9 ⟨H9, I9, q9⟩ => ?_
   have tail : ∀ {s' : Shared} {τ' : St} {H' : Hp}, Inv (blk X N sc cl P2.objs.size fp s2 H2) ([(s2.heap.objs.size, { cls := .type "list", data := .seq its.toArray k })] ++ uP fp s7.heap) τ' H' s' ->
     (s'.heap.get? s2.heap.objs.size = some { cls := .type "list", data := .seq its.toArray k } /\ H' s2.heap.objs.size = none) /\ (∀ b ∈ fp, ∀ o, s7.heap.get? b = some o -> s'.heap.get? b = some o) /\ ∀ b ∈ fp, H' b = none := fun {s' τ' H'} I' => by
    refine ⟨?_, fun b hb o e => (I'.pin (b, o) (mem_append_right _ (mem_append_right _ (lW hb e)))).1, fun b hb => ?_⟩
    ·obtain ⟨a1, a2, _⟩ := I'.pin (s2.heap.objs.size, { cls := .type "list", data := .seq its.toArray k }) (mem_append_right _ (mem_append_left _ Z2))
     exact ⟨a1, a2⟩
    ·obtain ⟨o, e, _⟩ := T.obj _ _ st7 b hb
     exact (I'.pin (b, o) (mem_append_right _ (mem_append_right _ (lW hb e)))).2.1
   cases ok with
   | false =>
    obtain ⟨m', hm, w9⟩ := q9
    obtain ⟨_, k2, k3⟩ := tail I9
    exact ⟨m', hm, i + 1, τ8, ys, its, k, H9, rv, hz, I9.unpinned, T.keep _ _ _ st7 k2, k3, w9⟩
   | true =>
    refine thn (he _ _ _ s9 τ8 H9 _ I9 q9) fun v s10 ⟨y, H10, I10, r10, hl, m', hm, w10⟩ => ?_
    obtain ⟨⟨gD, fD⟩, k2, k3⟩ := tail I10
    have hlen := rv.length
    refine call_meets F.slot_list_append ⟨_, gD, rfl⟩ F.entry_list_append (F.args_list_append_2 _ _) (PySem.list_append s2.heap.objs.size its.toArray k v (by rw [size_toArray]; omega)) ⟨gD, ?_⟩
    obtain ⟨k', q⟩ : ∃ k', (s10.heap.update s2.heap.objs.size (Obj.mapSeq (·.push v))).get? s2.heap.objs.size = some { cls := .type "list", data := .seq (its ++ [v]).toArray k' } := by
     have q := PySem.IsL.update gD (·.push v)
     rw [show (its.toArray.push v) = (its ++ [v]).toArray from by simp] at q
     exact ⟨_, q⟩
    have other : ∀ b o, b ≠ s2.heap.objs.size -> s10.heap.get? b = some o -> (s10.heap.update s2.heap.objs.size (Obj.mapSeq (·.push v))).get? b = some o := fun b o hb e => (Heap.get?_update_other s10.heap _ (Ne.symm hb)).trans e
    have Ia : Inv (blk X N sc cl P2.objs.size fp s2 H2) [] τ8 H10 { s10 with heap := s10.heap.update s2.heap.objs.size (Obj.mapSeq (·.push v)), toks := s10.toks } :=
     (I10.pins_of (pins' := []) fun p hp => nomatch hp).turned other fD hDC (.inr (le_refl _)) (fun x c e => ne_of_lt (cellD x c e)) fun p hp => absurd (show p ∈ ([] : OP) from hp) Z2
    refine ⟨m', hm, i + 1, τ8, ys ++ [y], its ++ [v], k', H10, rv.append (.cons r10 .nil), by rw [length_append, List.length_singleton]; omega, ?_, T.keep _ _ _ st7 fun b hb o e => ?_, k3, w10⟩
    ·refine Ia.pins_of fun p hp => ?_
     have hp' := mem_singleton.mp hp
     subst hp'
     exact ⟨q, fD, hDC, frD (le_refl _), fun v z => by cases z⟩
    ·obtain ⟨ob, eb⟩ := fpo b hb
     exact other b o (ne_of_lt (Heap.lt_size eb)) (k2 b hb o e)
 exact codeAny_compStart_list (loop _ rfl) (T.self X.A 0 _ _ _ (T.keep _ _ _ st fun b _ o e => old b o e) (loop _ rfl))
end
section
variable {X : Cx} {N : List Str} {ix : List (Option Nat)} {sc : Scope} {el tg src : Expr} {ifs : List Expr} {wi : TI} {g : TG} {tf : TT} {te : TE} {pos : Pos}
theorem Inv.clos {pins : OP} {σ : St} {H : Hp} {s : Shared} (I : Inv X pins σ H s) (hb : nQ X.env.scope X.N N ix sc = true) :
  ∃ cl : List (Str × Addr), closureFor sc X.env = pure cl /\ (∀ x c, cl.lookup x = some c -> X.env.cells.lookup x = some c) /\ ∀ x, (x, NameKind.free) ∈ sc.names -> ∃ c, cl.lookup x = some c := by
 refine Jy fun y hy hf => I.ok.has y.1 ?_
 unfold nQ at hb
 simp only [and_eq_true] at hb
 have := all_eq_true.mp hb.1.2 y hy
 simp only [and_eq_true] at this
 have h2 := this.2
 rw [hf] at h2
 have h3 : X.env.scope.names.lookup y.1 = some .cell \/ X.env.scope.names.lookup y.1 = some .free := by simpa using h2
 exact h3
theorem wu (hb : nQ X.env.scope X.N N ix sc = true) : sc.kind = .function /\ ∀ y ∈ sc.names, y.2 = .local -> sc.names.lookup y.1 = some .local := by
 unfold nQ at hb
 simp only [and_eq_true] at hb
 refine ⟨eq_of_beq hb.1.1, fun y hy hl => ?_⟩
 have := all_eq_true.mp hb.1.2 y hy
 simp only [and_eq_true] at this
 have h2 := this.1.2
 rw [hl] at h2
 simpa using h2
theorem dX (ix : List (Option Nat)) (hc : X.calm = true) (hb : nQ X.env.scope X.N N ix sc = true) (hi : PI X tg src wi)
  (hg : ∀ cl C fp s H, PG (blk X N sc cl C fp s H) tg g) (hf : ∀ cl C fp s H, PF (blk X N sc cl C fp s H) ifs tf) (he : ∀ cl C fp s H, PE (blk X N sc cl C fp s H) el te)
  (hs : ∀ x, foldedSetIterable src X.env x = pure x := by intro _; rfl) : PE X (.ListComp el [⟨tg, src, ifs, 0⟩] sc pos) (Cw ix wi g tf te) := by
 intro pins s σ H Q I h
 obtain ⟨cl, hcl, c1, c2⟩ := I.clos hb
 obtain ⟨hk, hn⟩ := wu hb
 rw [eval_ListComp]
 refine wpAny_comprehension_free (use := none) rfl hs hcl hk hn (thn (hi pins s σ H _ I h) fun xv s1 h1 => thn h1 fun itv s2 h2 => ?_)
 obtain ⟨it, fp, tn, J, H2, rfl, I2, T, st, f2, hW⟩ := h2
 refine wH (RR := fun acc C => compPost (model X.prog X.w) X.A X.xe none (EP X pins σ Q) acc C) I2 hc hb c1 c2 T st f2 (fun C fp => hg cl C fp s2 H2) (fun C fp => hf cl C fp s2 H2) (fun C fp => he cl C fp s2 H2) hW ?_
 intro D C s' ys H' hD ⟨m, hm⟩ I' fC fin
 refine ⟨m, hm, fun h' hs' => ⟨.ref D, _, ?_, rfl, fin D hD⟩⟩
 obtain ⟨g1, g2, _, g4, g5, g6⟩ := fC
 exact I'.turned (t' := s'.toks) (fun b o hb e => (hs'.2 b hb).trans e) g1 g2 g4 g5 g6
theorem Ju (ix : List (Option Nat)) {i : Nat} {x : Str} {pos' spos : Pos} (hN : X.N.Nodup) (hxi : X.N[i]? = some x) (hx : Loc X.env.scope x) (hc : X.calm = true) (hb : nQ X.env.scope X.N N ix sc = true) (hi : PI X tg src wi)
  (hg : ∀ cl C fp s H, PG (blk X N sc cl C fp s H) tg g) (hf : ∀ cl C fp s H, PF (blk X N sc cl C fp s H) ifs tf) (he : ∀ cl C fp s H, PE (blk X N sc cl C fp s H) el te)
  (hsw : swapsWith (.ListComp el [⟨tg, src, ifs, 0⟩] sc pos) (some (.Name x pos')) spos.line X.env = pure true := by rfl)
  (hfn : X.fn x = true \/ X.env.scope.names.lookup x = some .local := by first | exact .inl rfl | exact .inr rfl | assumption)
  (hs : ∀ x, foldedSetIterable src X.env x = pure x := by intro _; rfl) : PS X (.Assign [.Name x pos'] (.ListComp el [⟨tg, src, ifs, 0⟩] sc pos) spos) (Ao (Cw ix wi g tf te) (dI i)) := by
 intro pins s σ H D0 I h
 obtain ⟨cl, hcl, c1, c2⟩ := I.clos hb
 obtain ⟨hk, hn⟩ := wu hb
 rw [exec_Assign_Name_used _ _ _ _ hsw]
 refine wpAny_bind (wpAny_standAt (wpAny_bind ?_))
 show wpAny _ X.A (do let _ <- comprehension (.ListComp el [⟨tg, src, ifs, 0⟩] sc pos) sc X.env _ (newList []) false (eval src X.env) (some (assign (.Name x pos') X.env))) _ _ s
 refine wpAny_bind (thn (wpAny_comprehension_free (use := some (assign (.Name x pos') X.env)) (Q := fun _ s' => SP X pins D0 .next s') rfl hs hcl hk hn (thn (hi pins s σ H _ I h) fun xv s1 h1 => thn h1 fun itv s2 h2 => ?_)) fun _ s' hq => wpAny_pure (wpAny_pure hq))
 obtain ⟨it, fp, tn, J, H2, rfl, I2, T, st, f2, hW⟩ := h2
 refine wH (RR := fun acc C => compPost (model X.prog X.w) X.A X.xe (some (assign (.Name x pos') X.env)) (fun _ s' => SP X pins D0 .next s') acc C) I2 hc hb c1 c2 T st f2 (fun C fp => hg cl C fp s2 H2) (fun C fp => hf cl C fp s2 H2) (fun C fp => he cl C fp s2 H2) hW ?_
 intro D C s' ys H' hD ⟨m, hm⟩ I' fC fin
 obtain ⟨g1, g2, _, g4, g5, g6⟩ := fC
 show wpAny _ X.A (assign (.Name x pos') X.env (.ref D)) _ _ _
 refine wpAny_assign_Name (wD (v := .ref D) I' hN hxi hx rfl (fun s'' I'' ⟨a, sb, ha⟩ => ?_) hfn)
 have hCa : C ≠ a := by
  rcases ha with z | z
  ·rw [z]; exact g2
  ·exact fun e => g5 x a z e.symm
 refine ⟨m, hm.sameBut sb hCa, fun h' hs' => ⟨_, _, I''.turned (t' := s''.toks) (fun b o hb e => (hs'.2 b hb).trans e) g1 g2 g4 g5 g6, fin D hD⟩⟩
end
theorem Av {lo : Int} {n : Nat} {tf : TT} {te : TE} {τ0 : St} {H : Hp} {Fin : List V -> Hp -> Prop} (f : Nat -> V) (hn : n <= sizeLine)
  (hte : ∀ i H' Q, i < n -> aB H H' -> (∀ H'', aB H' H'' -> Q (f i) H'') -> tf (τ0.set 0 (some (.int (lo + i)))) H' fun b H3 => b = true /\ te (τ0.set 0 (some (.int (lo + i)))) H3 Q)
  (mono : ∀ τ H Q Q', (∀ b H1, Q b H1 -> Q' b H1) -> tf τ H Q -> tf τ H Q')
  (hfin : ∀ H', aB H H' -> Fin ((List.range n).map f) H') : nT (dI 0) tf te (Itr lo n) τ0 H Fin := by
 refine ⟨fun i m τ ys H' => m = n - i /\ i <= n /\ ys = (List.range i).map f /\ aB H H' /\ ∃ v, τ = τ0.set 0 v \/ τ = τ0, ⟨n, rfl, zero_le _, rfl, aB.refl _, none, .inr rfl⟩, ?_⟩
 rintro i m τ ys H' ⟨rfl, hi, rfl, sm, v, hτ⟩
 by_cases hlt : i < n
 ·refine .inr ⟨hlt, fun x H'' y => ?_⟩
  obtain ⟨e, y⟩ := y
  subst e y
  have e2 : τ.set 0 (some (V.int (lo + i))) = τ0.set 0 (some (V.int (lo + i))) := by
   rcases hτ with rfl | rfl
   ·rw [set_set]
   ·rfl
  show tf (τ.set 0 (some (V.int (lo + i)))) H'' _
  rw [e2]
  refine mono _ _ _ _ ?_ (hte i H'' (fun y H4 => ((List.range i).map f).length < sizeLine /\ ∃ m', m' < n - i /\ (m' = n - (i + 1) /\ i + 1 <= n /\ (List.range i).map f ++ [y] = (List.range (i + 1)).map f /\ aB H H4 /\ ∃ v, τ0.set 0 (some (V.int (lo + i))) = τ0.set 0 v \/ τ0.set 0 (some (V.int (lo + i))) = τ0)) hlt sm fun H4 s4 => ?_)
  ·rintro b H1 ⟨rfl, q⟩
   rw [if_pos rfl]
   exact q
  ·refine ⟨by rw [length_map, length_range]; omega, n - (i + 1), Z1, rfl, hlt, by rw [range_succ, map_append]; rfl, sm.trans s4, _, .inl rfl⟩
 ·have e : i = n := by omega
  subst e
  exact .inl ⟨le_refl _, hfin H' sm⟩
theorem jd {K : Frag} {a : Addr} {xs : List V} {te : TE} {τ0 : St} {H : Hp} {Fin : List V -> Hp -> Prop} (f : V -> V) (hn : xs.length <= sizeLine) (hl : SqL K H a xs)
  (hte : ∀ x H' Q, x ∈ xs -> aB H H' -> (∀ H'', aB H' H'' -> Q (f x) H'') -> te (τ0.set 0 (some x)) H' Q)
  (hfin : ∀ H', aB H H' -> Fin (xs.map f) H') : nT (dI 0) oY te (Itl K a) τ0 H Fin := by
 refine ⟨fun i m τ ys H' => m = xs.length - i /\ i <= xs.length /\ ys = (xs.take i).map f /\ aB H H' /\ ∃ v, τ = τ0.set 0 v \/ τ = τ0, ⟨xs.length, rfl, zero_le _, rfl, aB.refl _, none, .inr rfl⟩, ?_⟩
 rintro i m τ ys H' ⟨rfl, hi, rfl, sm, v, hτ⟩
 by_cases hlt : i < xs.length
 ·refine .inr ⟨⟨xs, xs[i], sm.seq hl, by simp [hlt]⟩, fun x H'' y => ?_⟩
  obtain ⟨e, y⟩ := y
  subst e
  have hx := y xs (sm.seq hl)
  have e2 : τ.set 0 (some x) = τ0.set 0 (some x) := by
   rcases hτ with rfl | rfl
   ·rw [set_set]
   ·rfl
  unfold dI oY
  rw [e2]
  dsimp only
  rw [if_pos rfl]
  refine hte x H'' _ (mem_of_getElem? hx) sm fun H4 s4 => ?_
  refine ⟨by rw [length_map, length_take]; omega, xs.length - (i + 1), Z1, rfl, hlt, ?_, sm.trans s4, _, .inl rfl⟩
  rw [take_add_one, hx, map_append]
  rfl
 ·have e : i = xs.length := by omega
  subst e
  exact .inl ⟨⟨xs, sm.seq hl, le_refl _⟩, by have := hfin H' sm; rw [take_length]; exact this⟩
theorem dm {c A B : Prop} [Decidable c] (h1 : c -> A) (h2 : ¬ c -> B) : if decide c = true then A else B := by
 by_cases h : c
 ·rw [if_pos (decide_eq_true h)]; exact h1 h
 ·rw [if_neg (by simpa using h)]; exact h2 h
theorem fX {i j : Int} {A B : Prop} (h1 : i = j -> A) (h2 : ¬ i = j -> B) : if decide (V.int i = V.int j) = true then A else B :=
 dm (fun h => h1 (V.int.inj h)) fun h => h2 fun e => h (congrArg V.int e)
theorem wA {x y : V} {A B : Prop} (e : x = y) (h : B) : if (!decide (x = y)) = true then A else B := by
 rw [if_neg (by simp [e])]; exact h
theorem aB.new {H : Hp} {p : Addr} {o : HO} (h : H p = none) : aB H (upd H p o) := fun b u e => by
 rw [aR (aQ e h)]; exact e
theorem aB.put {H H' : Hp} {p : Addr} {o : HO} (s : aB H H') (h : H' p = none) : aB H (upd H' p o) := s.trans (aB.new h)
theorem aB.over {H H' : Hp} {p : Addr} {o : HO} (s : aB H H') (h : H p = none) : aB H (upd H' p o) := fun b u e => by
 rw [aR (aQ e h)]; exact s b u e
structure FnAt (K : Frag) (mg : MG) (x : Str) (st : Stmt) (ps : List Str) (f : Addr) (fd : FuncData) : Prop where
 F : Fun K x x st f fd
 b : Binds K fd ps []
 m : mg x = some (.ref f)
section
variable {X : Cx} {k : Nat} {f : Addr} {fd : FuncData} {ps : List Str} {sp : Sp} {x : Str} {st : Stmt} {p pos : Pos} {e : Expr} {es : List Expr} {t : TA}
theorem aU (A : FnAt X.K X.mg x st ps f fd) (G : aO X.prog X.w X.K X.mg X.base CX0 k f fd ps sp) (hr : bh k X.A) (ha : PA X (e :: es) t) (hg : Gl X x := by rfl)
  (hdb : (x == ("__debug__" : Str)) = false := by decide) (he : starEach (e :: es) X.env = (false, eval e X.env) :: starEach es X.env := by rfl) (hpl : (backTo pos (starEach es X.env)).any (·.1) = false := by rfl) :
  PE X (.Call (.Name x p) (e :: es) [] pos) (Cm sp [] E0 t) := IV G hr hg A.m A.F.kp A.b .nil Dc ha hdb he hpl
end
def Pur (v : V) (H : Hp) (Q : VK) : Prop := ∀ H', aB H H' -> Q v H'
end L2
namespace Mine
open PySem PySem.Spec PyProof.Rows L2
def v9 : Sp := fun vs H Q _ => ∃ (c j : Int), vs = [.int c, .int j] /\ 0 <= j /\ j <= 1000 /\ Pur (.int (sub c j)) H Q
def zT : Sp := fun vs H Q _ => ∃ (c far : Int), vs = [.int c, .int far] /\ 0 < far /\ Pur (.int (number c far)) H Q
def jW : Sp := fun vs H Q _ => ∃ (c k m : Int), vs = [.int c, .int k, .int m] /\ 0 <= k /\ k < 40 /\ 0 < m /\ Pur (.int (pick c k m)) H Q
def Gz : Sp := fun vs H Q _ => ∃ (c : Int), vs = [.int c] /\ Pur (.str (name c)) H Q
end Mine
namespace L2
open PySem PySem.Spec PyProof.Rows
section
variable {X : Cx}
def Xi : V -> Option Int -> Option Int -> Hp -> VK -> Prop := fun x lo hi H Q => ∃ z, x = .str z /\ z.length <= sizeLine /\ Q (.str (Txt.slice z lo hi)) H
theorem part_of {v : Value} {o : Option Int} (p : IsPart v o) : ∃ l : Option (Int × Tok), v = partValue l /\ o = l.map (·.1) := by
 cases p with
 | none => exact ⟨none, rfl, rfl⟩
 | int i t => exact ⟨some (i, t), rfl, rfl⟩
theorem mz : SlR X Xi := by
 intro pins s σ H x v vl vu lo hi sl Q I rx hs pl pu h
 obtain ⟨z, rfl, hz, q⟩ := h
 obtain ⟨t, rfl⟩ := rx
 obtain ⟨l, rfl, rfl⟩ := part_of pl
 obtain ⟨u, rfl, rfl⟩ := part_of pu
 obtain ⟨os, h1, h2, h3⟩ := hs
 refine ⟨"str", _, F.slot_str_getitem.lookup, typeIs_str _ _ _, ?_⟩
 exact wpAny_getItem_str_slice (l := l) (u := u) (st := none) ⟨os, h1, h2, h3⟩ rfl (post_val_or_str ⟨le_trans (Txt.slice_le z _ _) hz, fun t' k => ⟨.str _, H, I.tok k, ⟨t', rfl⟩, q⟩⟩)
def Its (z : Str) : It := ⟨fun i _ => i < z.cps.size, fun i H x H' => H' = H /\ ∃ c, z.cps.toList[i]? = some c /\ x = .str ⟨#[c]⟩, fun i _ => z.cps.size <= i⟩
theorem zH {P : Program} {w : World} {K : Frag} {tg : Expr} (it : Addr) (z : Str) (t : Tok) (ty : String)
  (hW : ∀ A : Around, A.handled = none -> Walks P w A it [it] [it] z.cps.size (SignAt z) (fun i h => h.IsStrIter it ty z t i))
  (hn : ["enumerate", "zip", "dict_itemiterator", "dict_reverseitemiterator", "odict_iterator", "itertools.zip_longest", "itertools.pairwise"].contains ty = false)
  (hself : ∀ (A : Around) (i : Nat) (s : Shared) (Q : EV) (E : EV), s.heap.IsStrIter it ty z t i -> Q (.ref it) s -> wpAny (model P w) A (pyIter (.ref it)) Q E s) :
  Turn P w K tg (Its z) [it] it (fun i h => i <= z.cps.size /\ h.IsStrIter it ty z t i) where
 mem := by simp
 obj := fun i h st b hb => by
  have e : b = it := by simpa using hb
  subst e
  obtain ⟨_, o, e, c, d⟩ := st
  exact ⟨o, e, fun v z => by rw [d] at z; cases z⟩
 keep := fun i h h' st k => by
  obtain ⟨hi, o, e, r⟩ := st
  exact ⟨hi, o, k it Z2 o e, r⟩
 item := by
  intro X hP hw hK hc i pins s σ H E I hf st hg
  subst hP hw hK
  obtain ⟨f0, f1, f2, f3, f4, f5⟩ := hf it Z2
  refine (hW X.A (I.ok.hd hc)).item i s _ _ hg st.2 fun v h' tk hv st' kk => ?_
  obtain ⟨c, u, hx, rfl⟩ := hv
  have I1 : Inv X pins σ H { s with heap := h', toks := tk } := I.turned (fun b o hb e => kk b o (by simpa using hb) e) f0 f1 f3 f4 f5
  obtain ⟨o, e, hcl, d⟩ := id st'
  exact ⟨_, rfl, Ag (s := { s with heap := h', toks := tk }) e hcl d hn ⟨.str ⟨#[c]⟩, H, I1, ⟨u, rfl⟩, ⟨rfl, c, by simpa using hx, rfl⟩, ⟨hg, st'⟩, fun b hb => (hf b hb).1⟩⟩
 done := by
  intro X hP hw hK hc i pins s σ H E I hf st hg
  subst hP hw hK
  obtain ⟨f0, f1, f2, f3, f4, f5⟩ := hf it Z2
  obtain ⟨hi, st⟩ := st
  have e : i = z.cps.size := Nat.le_antisymm hi hg
  subst e
  exact (hW X.A (I.ok.hd hc)).done s _ _ st fun h' tk kk => ⟨rfl, I.turned (fun b o hb e => kk b o (by simpa using hb) e) f0 f1 f3 f4 f5⟩
 self := fun A i s Q E st h => hself A i s Q E st.2 h
def Rt (tl : TE) : TI := fun σ H R => tl σ H fun x H1 => ∃ z, x = .str z /\ R (Its z) H1
theorem yj {tg l : Expr} {tl : TE} (hl : PE X l tl) : PI X tg l (Rt tl) := by
 intro pins s σ H R I h
 refine thn (hl pins s σ H _ I h) fun v s1 ⟨x, H1, I1, r1, q1⟩ => ?_
 obtain ⟨z, rfl, q⟩ := q1
 obtain ⟨t, rfl⟩ := r1
 have fin : ∀ (o : Obj) (b : Addr), b ∈ [s1.heap.objs.size] -> ud X pins H1 b := fun o b hb => by
  have e : b = s1.heap.objs.size := by simpa using hb
  subst e
  exact I1.fpOk (le_refl _) (I1.hok.fresh (le_refl _))
 cases ha : z.cps.all (· < 128)
 ·refine wpAny_pyIter_wide ha ?_
  exact ⟨s1.heap.objs.size, [s1.heap.objs.size], _, _, H1, rfl, I1.kept (t' := s1.toks) fun b o e => Heap.get?_push_of_some _ e,
   zH _ z t "str_iterator" (fun A hA => Walks.strWide hA _ z t) Z0 (fun A i s Q E st h => wpAny_pyIter_striter_wide st h), ⟨zero_le _, _, Heap.get?_push_size _ rfl, rfl, rfl⟩, fin default, q⟩
 ·refine wpAny_pyIter_ascii ha ?_
  exact ⟨s1.heap.objs.size, [s1.heap.objs.size], _, _, H1, rfl, I1.kept (t' := s1.toks) fun b o e => Heap.get?_push_of_some _ e,
   zH _ z t "str_ascii_iterator" (fun A hA => Walks.strAscii hA _ z t) Z0 (fun A i s Q E st h => wpAny_pyIter_striter_ascii st h), ⟨zero_le _, _, Heap.get?_push_size _ rfl, rfl, rfl⟩, fin default, q⟩
theorem JS {z : Str} {g : TG} {tb : TS} {D : Ends} {σ : St} {H : Hp} (Pv : Nat -> St -> Hp -> Prop) (h0 : Pv 0 σ H)
  (hs : ∀ i c σ H, z.cps.toList[i]? = some c -> Pv i σ H -> g (.str ⟨#[c]⟩) σ H fun σ2 H2 => tb { D with nx := Pv (i + 1), ct := Pv (i + 1), bk := D.nx } σ2 H2) (hd : ∀ σ H, Pv z.cps.size σ H -> D.nx σ H) :
  ∃ W : Nat -> Nat -> St -> Hp -> Prop, (∃ m, W 0 m σ H) /\ ∀ i m σ H, W i m σ H ->
   ((Its z).stop i H /\ D.nx σ H) \/ ((Its z).go i H /\ ∃ N : St -> Hp -> Prop, (∀ σ' H', N σ' H' -> ∃ m', m' < m /\ W (i + 1) m' σ' H') /\ ∀ x H', (Its z).yld i H x H' -> g x σ H' fun σ2 H2 => tb { D with nx := N, ct := N, bk := D.nx } σ2 H2) := by
 refine ⟨fun i m σ H => m = z.cps.size - i /\ i <= z.cps.size /\ Pv i σ H, ⟨z.cps.size, Z2, zero_le _, h0⟩, ?_⟩
 rintro i m σ H ⟨rfl, hi, p⟩
 by_cases hlt : i < z.cps.size
 ·refine .inr ⟨hlt, Pv (i + 1), fun σ' H' p' => ⟨z.cps.size - (i + 1), Z1, rfl, hlt, p'⟩, fun x H' y => ?_⟩
  obtain ⟨e, c, hc, y⟩ := y
  subst e y
  exact hs i c σ _ hc p
 ·have e : i = z.cps.size := by omega
  subst e
  exact .inl ⟨le_refl _, hd σ H p⟩
theorem zA {z : Str} {te : TE} {τ0 : St} {H : Hp} {Fin : List V -> Hp -> Prop} (f : Nat -> V) (hn : z.length <= sizeLine)
  (hte : ∀ c H' Q, c ∈ z.cps.toList -> aB H H' -> (∀ H'', aB H' H'' -> Q (f c) H'') -> te (τ0.set 0 (some (.str ⟨#[c]⟩))) H' Q)
  (hfin : ∀ H', aB H H' -> Fin (z.cps.toList.map f) H') : nT (dI 0) oY te (Its z) τ0 H Fin := by
 have hz : z.cps.size = z.cps.toList.length := by simp
 have hn' : z.cps.toList.length <= sizeLine := by rw [<- hz]; exact hn
 refine ⟨fun i m τ ys H' => m = z.cps.size - i /\ i <= z.cps.size /\ ys = (z.cps.toList.take i).map f /\ aB H H' /\ ∃ v, τ = τ0.set 0 v \/ τ = τ0, ⟨z.cps.size, rfl, zero_le _, rfl, aB.refl _, none, .inr rfl⟩, ?_⟩
 rintro i m τ ys H' ⟨rfl, hi, rfl, sm, v, hτ⟩
 by_cases hlt : i < z.cps.size
 ·refine .inr ⟨hlt, fun x H'' y => ?_⟩
  obtain ⟨e, c, hc, y⟩ := y
  subst e y
  have e2 : τ.set 0 (some (V.str ⟨#[c]⟩)) = τ0.set 0 (some (V.str ⟨#[c]⟩)) := by
   rcases hτ with rfl | rfl
   ·rw [set_set]
   ·rfl
  unfold dI oY
  rw [e2]
  dsimp only
  rw [if_pos rfl]
  refine hte c H'' _ (mem_of_getElem? hc) sm fun H4 s4 => ?_
  refine ⟨by rw [length_map, length_take]; omega, z.cps.size - (i + 1), Z1, rfl, hlt, ?_, sm.trans s4, _, .inl rfl⟩
  rw [take_add_one, hc, map_append]
  rfl
 ·have e : i = z.cps.size := by omega
  subst e
  exact .inl ⟨le_refl _, by have := hfin H' sm; rw [hz, take_length]; exact this⟩
theorem Gu {bs : List Bool} : ∀ {us : List Value} {i : Nat} {v : Value}, Vals (bs.map V.bl) us -> us[i]? = some v -> v = .bool (bs.getD i false) := by
 induction bs with
 | nil => intro us i v r h; rw [map_nil] at r; cases r; simp at h
 | cons b bs ih =>
  intro us i v r h
  rw [map_cons] at r
  cases r with
  | cons r1 r2 =>
   cases i with
   | zero =>
    have r1' : _ = Value.bool b := r1
    simp at h
    rw [<- h, r1']
    rfl
   | succ i => exact ih r2 (by simpa using h)
theorem range_all (bs : List Bool) : (List.range bs.length).all (fun i => bs.getD i false) = bs.all id := by
 have e : (List.range bs.length).map (fun i => bs.getD i false) = bs := by
  apply ext_getElem
  ·simp
  ·intro i h1 h2
   simp [List.getD_eq_getElem?_getD, h2]
 conv => rhs; rw [<- e]
 rw [all_map]; rfl
theorem range_any (bs : List Bool) : (List.range bs.length).any (fun i => bs.getD i false) = bs.any id := by
 have e : (List.range bs.length).map (fun i => bs.getD i false) = bs := by
  apply ext_getElem
  ·simp
  ·intro i h1 h2
   simp [List.getD_eq_getElem?_getD, h2]
 conv => rhs; rw [<- e]
 rw [any_map]; rfl
def Mu (K : Frag) (f : List Bool -> Bool) : List V -> Hp -> VK -> Prop := fun xs H Q => ∃ p bs, xs = [.ref p] /\ SqL K H p (bs.map V.bl) /\ Q (.bl (f bs)) H
theorem lw (hc : X.calm = true) : fY X (.builtin "all") (Mu X.K fun bs => bs.all id) := by
 intro pins s σ H xs us Q I r h
 obtain ⟨p, bs, rfl, hq, q⟩ := h
 obtain ⟨u, rfl, rx⟩ := vals1 r
 cases (show u = Value.ref p from rx)
 obtain ⟨its, rv, pl, hz⟩ := I.list hq
 have hlen := rv.length
 rw [length_map] at hlen
 have hne : p ≠ s.heap.objs.size := by
  obtain ⟨o, e, _⟩ := pl.isList
  exact ne_of_lt (Heap.lt_size e)
 refine call_all_walk (wpAny_pyIter_list pl.isList ?_)
 refine ⟨s.heap.objs.size, _, _, _, _, _, fun i => bs.getD i false, rfl, Walks.list (show X.A.in1.handled = none from I.ok.hd hc) s.heap.objs.size p hne its.toArray, ⟨⟨_, Heap.get?_push_size _ rfl, rfl, rfl⟩, ?_⟩, fun i v s' Q' E' hP hQ => ?_, fun h' tk kk => ?_⟩
 ·exact pl.isList.at fun o e => Heap.get?_push_of_some _ e
 ·have e := Gu rv (by simpa using hP)
  subst e
  exact wpAny_truthy_bool hQ
 ·have e : (List.range its.toArray.size).all (fun i => bs.getD i false) = bs.all id := by rw [size_toArray, <- hlen]; exact range_all bs
  rw [e]
  refine ⟨.bl _, H, I.kept fun b o e => ?_, rfl, q⟩
  exact kk b o (fun z => absurd (Heap.lt_size e) (by rw [mem_singleton.mp z]; exact lt_irrefl _)) (Heap.get?_push_of_some _ e)
end
section
variable {X : Cx} {K : Frag}
theorem GR (h : X.K = K) : IxR X (Pa K) := by subst h; exact aP
theorem Ck (h : X.K = K) : IxR X (Vv K) := by subst h; exact kj
theorem u6 (h : X.K = K) : fY X (.builtin "isinstance") (Kl K) := by subst h; exact bN
variable {o e : Expr} {es : List Expr} {to : TE} {t : TA} {name : Str} {apos cpos : Pos} {T id : String} {r : V -> List V -> Hp -> VK -> Prop}
theorem Lg (h : X.K = K) (pa : PlainAttrs T) (slot : Slot T name id) (hty : typeOf (.builtin id) = pure (.type "method_descriptor")) (hm : MtR X id r) (ho : PE X o to) (ha : PA X (e :: es) t)
  (hbase : attributeBase o name X.env (eval o X.env) = eval o X.env := by rfl)
  (hfew : ((backTo cpos (starEach (e :: es) X.env)).all (fun x => !x.1) && (backToKw cpos (keywordEach [] X.env)).all (fun x => x.1.isSome)
   && decide ((e :: es).length + ([] : List Keyword).length + (if ([] : List Keyword).isEmpty then 0 else 1) < 30)) = true := by rfl)
  (hline : (apos.endLine == cpos.line) = true := by rfl) (hs : starEach (e :: es) X.env = (false, eval e X.env) :: starEach es X.env := by rfl) (hplain : (backTo cpos (starEach es X.env)).any (·.1) = false := by rfl) :
  PE X (.Call (.Attribute o name apos) (e :: es) [] cpos) (tBM K T r to t) := by
 subst h
 exact dU pa slot hty hm ho ha hbase hfew hline hs hplain
end
structure QS (X : Cx) (st : Stmt) (t : TS) : Prop where
 h : PS X st t
structure QSs (X : Cx) (st : List Stmt) (t : TS) : Prop where
 h : PSs X st t
section
variable {X : Cx} {st : Stmt} {rest : List Stmt} {t u : TS} {e : Expr} {te : TE} {pos : Pos}
theorem aL : QSs X [] Ks := ⟨qJ⟩
theorem au (h1 : QS X st t) (h2 : QSs X rest u) : QSs X (st :: rest) (RN t u) := ⟨dz h1.h h2.h⟩
theorem az (h1 : QS X st t) : QSs X [st] t := ⟨gC h1.h⟩
theorem jL (he : PE X e te) (hs : swapsWith e none pos.line X.env = pure false := by rfl) : QS X (.Expr e pos) (Gy te) := ⟨JZ he hs⟩
theorem aD (he : PE X e te) : QS X (.Return (some e) pos) (FQ te) := ⟨kW he⟩
theorem bc {c : Expr} {a b : List Stmt} {tc : TT} (hc : PT X c tc) (ha : QSs X a t) (hb : QSs X b u) : QS X (.If c a b pos) (Va tc t u) := ⟨zQ hc ha.h hb.h⟩
theorem nq {tg iter : Expr} {body : List Stmt} {wi : TI} {g : TG} {tb : TS} (hp : PassesOwn (model X.prog X.w) X.A X.env X.xe) (hc : X.calm = true) (hi : PI X tg iter wi) (hg : PG X tg g) (hb : QSs X body tb) (hs : ∀ x, foldedSetIterable iter X.env x = pure x := by intro _; rfl) : QS X (.For tg iter body [] pos) (U9 wi g tb) := ⟨K3 hp hc hi hg hb.h hs⟩
theorem Bt {tg : Expr} {g : TG} (he : PE X e te) (hg : PG X tg g) (hs : swapsWithSole [tg] e pos.line X.env = pure false := by rfl) (hw : swappedStores [tg] e X.env = pure none := by rfl)
  (h1 : (assignEach [tg] X.env).map (·.2) = [assign tg X.env] := by rfl) : QS X (.Assign [tg] e pos) (Ao te g) := ⟨MF he hg hs hw h1⟩
theorem bz {i : Nat} {x : Str} {pos' : Pos} (hN : X.N.Nodup) (hi : X.N[i]? = some x) (hx : Loc X.env.scope x) (he : PE X e te) (hs : swapsWith e (some (.Name x pos')) pos.line X.env = pure false := by rfl) (hf : X.fn x = true \/ X.env.scope.names.lookup x = some .local := by first | exact .inl rfl | exact .inr rfl | assumption) :
  QS X (.Assign [.Name x pos'] e pos) (Ao te (dI i)) := ⟨nu hN hi hx he hs hf⟩
end
section
variable {X : Cx} {N : List Str} {sc : Scope} {el tg src : Expr} {ifs : List Expr} {wi : TI} {g : TG} {tf : TT} {te : TE} {pos : Pos}
theorem xu (ix : List (Option Nat)) {i : Nat} {x : Str} {pos' spos : Pos} (hN : X.N.Nodup) (hxi : X.N[i]? = some x) (hx : Loc X.env.scope x) (hc : X.calm = true) (hb : nQ X.env.scope X.N N ix sc = true) (hi : PI X tg src wi)
  (hg : ∀ cl C fp s H, PG (blk X N sc cl C fp s H) tg g) (hf : ∀ cl C fp s H, PF (blk X N sc cl C fp s H) ifs tf) (he : ∀ cl C fp s H, PE (blk X N sc cl C fp s H) el te)
  (hsw : swapsWith (.ListComp el [⟨tg, src, ifs, 0⟩] sc pos) (some (.Name x pos')) spos.line X.env = pure true := by rfl)
  (hfn : X.fn x = true \/ X.env.scope.names.lookup x = some .local := by first | exact .inl rfl | exact .inr rfl | assumption)
  (hs : ∀ x, foldedSetIterable src X.env x = pure x := by intro _; rfl) : QS X (.Assign [.Name x pos'] (.ListComp el [⟨tg, src, ifs, 0⟩] sc pos) spos) (Ao (Cw ix wi g tf te) (dI i)) :=
 ⟨Ju ix hN hxi hx hc hb hi hg hf he hsw hfn hs⟩
end
structure QA (X : Cx) (es : List Expr) (t : TA) : Prop where
 h : PA X es t
section
variable {X : Cx} {e : Expr} {es : List Expr} {te : TE} {t : TA} {pos : Pos}
theorem qN : QA X [] Fb := ⟨ak⟩
theorem aV (ha : PE X e te) (hr : QA X es t) (hs : starEach (e :: es) X.env = (false, eval e X.env) :: starEach es X.env := by rfl) : QA X (e :: es) (tZ te t) := ⟨aj ha hr.h hs⟩
theorem xO (h : QA X es t) : PE X (.List es pos) (KY t) := bC h.h
end
structure QE (X : Cx) (e : Expr) (t : TE) : Prop where
 h : PE X e t
section
variable {X : Cx} {a b e : Expr} {ta tb te : TE} {es : List Expr} {t : TA} {pos : Pos}
theorem Cy (h : QA X es t) : QE X (.List es pos) (KY t) := ⟨bC h.h⟩
theorem J5 {r : R2} (hr : IxR X r) (ha : QE X a ta) (hb : PE X b tb) (hs : Cj b := by exact fun _ _ => rfl) : QE X (.Subscript a b pos) (tOp r ta tb) := ⟨aX hr ha.h hb hs⟩
theorem Cq {i : Nat} {x : Str} {pos' : Pos} (hN : X.N.Nodup) (hi : X.N[i]? = some x) (hx : Loc X.env.scope x) (he : QE X e te) (hs : swapsWith e (some (.Name x pos')) pos.line X.env = pure false := by rfl) (hf : X.fn x = true \/ X.env.scope.names.lookup x = some .local := by first | exact .inl rfl | exact .inr rfl | assumption) :
  QS X (.Assign [.Name x pos'] e pos) (Ao te (dI i)) := ⟨nu hN hi hx he.h hs hf⟩
end
section
variable {X : Cx} {x : Str} {pos : Pos}
theorem CJ {y : Str} (h : ∃ t, X.mg x = some (.str y t)) (hg : Gl X x := by rfl) (hd : (x == ("__debug__" : Str)) = false := by decide) : PE X (.Name x pos) (tC (.str y)) := by
 obtain ⟨t, e⟩ := h
 exact tQ hg e ⟨t, rfl⟩ hd
theorem qd {y : Int} (h : ∃ t, X.mg x = some (.int y t)) (hg : Gl X x := by rfl) (hd : (x == ("__debug__" : Str)) = false := by decide) : PE X (.Name x pos) (tC (.int y)) := by
 obtain ⟨t, e⟩ := h
 exact tQ hg e ⟨t, rfl⟩ hd
end
theorem Ax {K : Frag} {n m : String} {b : Bool} (h0 : (Value.type n == Value.type m) = false) (h1 : kitMeta m = true) (h2 : (fastBuiltinMro n).map (·.contains (Value.type m)) = some b) : kitOne K (.type n) (.type m) = some b := by
 unfold kitOne
 rw [if_neg (by rw [h0]; decide)]
 show (if kitMeta m = true then PySem.W.subIn K (.type n) (.type m) else none) = some b
 rw [if_pos h1]
 exact h2
end L2
namespace Mine
open PySem PySem.Spec PyProof.Rows L2 PySem.Builtin PySem.Builtin.Str
theorem bO (a b : Str) : (a ++ b).length = a.length + b.length := by rw [bQ, bQ, bQ, dO, length_append]
theorem wK {c : Nat} : ∀ {ys : List (List Nat)} {y : List Nat}, y ∈ ys -> y.length <= (inter c ys).length
 | [], _, h => nomatch h
 | [x], y, h => by rw [mem_singleton.mp h]; exact le_refl _
 | x :: z :: r, y, h => by
  show y.length <= (x ++ c :: inter c (z :: r)).length
  rw [length_append, length_cons]
  rcases mem_cons.mp h with e | h
  ·rw [e]; omega
  ·have := wK (c := c) h; omega
theorem Et {c : Nat} {ys : List Str} {y : Str} (h : y ∈ ys) : y.length <= (Str.join ⟨#[c]⟩ ys).length := by
 rw [bQ, bQ, eG]
 exact wK (mem_map.mpr ⟨y, h, rfl⟩)
theorem vy {c : Nat} {x y : Str} (h : y ∈ Txt.split x ⟨#[c]⟩) : y.length <= x.length := by
 have := Et (c := c) h
 rw [StrLaws.join_split] at this
 exact this
theorem jc {x y : Str} (h : y ∈ Txt.split x ("." : Str)) : y.length <= x.length := by rw [uO] at h; exact vy h
theorem Gs (z : Str) (c k : Int) (h : 0 < z.length) : ∃ ch, atI z.cps.toList (pick c k (z.length : Int)) = some ch := by
 have h1 := cP c k (m := (z.length : Int)) Z1
 have h2 := cN c k (m := (z.length : Int)) Z1
 have hl : (pick c k (z.length : Int)).toNat < z.cps.toList.length := by rw [<- bQ]; omega
 refine ⟨z.cps.toList[(pick c k (z.length : Int)).toNat], ?_⟩
 have := cM (getElem?_eq_getElem hl)
 rwa [show (((pick c k (z.length : Int)).toNat : Nat) : Int) = pick c k (z.length : Int) from by omega] at this
theorem Gb : 1000 <= sizeLine := by decide
theorem yd : (("." : Str)).length = 1 := by decide +kernel
theorem lV : ((("." : Str)).length == 0) = false := by decide +kernel
def inL (c : Nat) : Bool := !(Builtin.Str.occurrences letters (⟨#[c]⟩ : Str) 0 letters.length 1).isEmpty
def nmB (z : Str) : Bool := decide (1 <= z.length) && decide (z.length <= 8) && z.cps.toList.all inL
end Mine
namespace L2
open PySem PySem.Spec PyProof.Rows
theorem bu {b : Bool} {A B : Prop} (e : b = true) (h : A) : if b = true then A else B := by rw [if_pos e]; exact h
theorem aM {b : Bool} {A B : Prop} (e : b = false) (h : B) : if b = true then A else B := by rw [if_neg (by rw [e]; decide)]; exact h
theorem mH {b : Bool} {A B : Prop} (e : b = true) (h : B) : if (!b) = true then A else B := by rw [if_neg (by rw [e]; decide)]; exact h
theorem kZ {b : Bool} {A B : Prop} (e : b = false) (h : A) : if (!b) = true then A else B := by rw [if_pos (by rw [e]; decide)]; exact h
theorem Jv {z : Str} {c k : Int} {H : Hp} {Q : VK} (h0 : 0 < z.length) (hz : z.length <= sizeLine) (h : ∀ ch, Q (.str ⟨#[ch]⟩) H) : Nb (.str z) (.int (Mine.pick c k (z.length : Int))) H Q := by
 obtain ⟨ch, e⟩ := Mine.Gs z c k h0
 exact ⟨z, _, ch, rfl, rfl, hz, e, h ch⟩
end L2
namespace Mine
open PySem PySem.Spec PyProof.Rows L2 PySem.Builtin PySem.Builtin.Str
def Ja : Str := "0123456789"
def zero : Str := "0"
def inF (c : Nat) : Bool := !(Builtin.Str.occurrences Ja (⟨#[c]⟩ : Str) 0 Ja.length 1).isEmpty
theorem Dq {c : Nat} (h0 : 48 <= c) (h1 : c <= 57) : inF c = true := by
 have h : ∀ n : Fin 10, inF (48 + n.val) = true := by decide +kernel
 have := h ⟨c - 48, Z1⟩
 rwa [show 48 + (⟨c - 48, Z1⟩ : Fin 10).val = c from by show 48 + (c - 48) = c; omega] at this
theorem Ds {c : Nat} (h0 : 97 <= c) (h1 : c <= 122) : inL c = true := by
 have h : ∀ n : Fin 26, inL (97 + n.val) = true := by decide +kernel
 have := h ⟨c - 97, Z1⟩
 rwa [show 97 + (⟨c - 97, Z1⟩ : Fin 26).val = c from by show 97 + (c - 97) = c; omega] at this
theorem dq.nmB {y : Str} (h : dq y) : nmB y = true := by
 unfold Mine.nmB
 rw [decide_eq_true h.lo, decide_eq_true h.hi, all_eq_true.mpr fun c hc => Ds (h.ok c hc).1 (h.ok c hc).2]
 rfl
def ir (z : Str) : Bool := decide (1 <= z.length) && decide (z.length <= 20) && !(decide (z.cps.toList.head? = some 48) && !decide (z = zero)) && z.cps.toList.all inF
def m7 (m : Nat) : Str := Str.ofString (toString ((m : Nat) : Int))
theorem jh (m : Nat) : (m7 m).cps.toList = (Nat.toDigits 10 m).map Char.toNat := PySem.W.KIN.signs_num m
theorem digit_range {m : Nat} {c : Nat} (h : c ∈ (m7 m).cps.toList) : 48 <= c /\ c <= 57 := by
 rw [jh] at h
 obtain ⟨d, hd, rfl⟩ := mem_map.mp h
 have := Nat.isDigit_of_mem_toDigits Z0 Z0 hd
 unfold Char.isDigit at this
 simp only [and_eq_true, decide_eq_true_eq] at this
 exact ⟨this.1, this.2⟩
theorem zV : ∀ m : Nat, (Nat.toDigits 10 m).head? = some '0' -> m = 0 := by
 intro m
 induction m using Nat.strongRecOn with
 | _ m ih =>
  intro h
  by_cases hm : m < 10
  ·rw [Nat.toDigits_of_lt_base hm] at h
   have h' : Nat.digitChar m = '0' := by simpa using h
   have : ∀ n : Fin 10, Nat.digitChar n.val = '0' -> n.val = 0 := by decide
   exact this ⟨m, hm⟩ h'
  ·have hd : m % 10 < 10 := Nat.mod_lt m Z0
   have t : Nat.toDigits 10 (m / 10) ++ Nat.toDigits 10 (m % 10) = Nat.toDigits 10 (10 * (m / 10) + m % 10) := Nat.toDigits_append_toDigits Z0 Z1 hd
   rw [Nat.div_add_mod] at t
   rw [<- t] at h
   have hne : Nat.toDigits 10 (m / 10) ≠ [] := Nat.toDigits_ne_nil
   cases e : Nat.toDigits 10 (m / 10) with
   | nil => exact absurd e hne
   | cons a r =>
    rw [e] at h
    have := ih (m / 10) Z1 (by rw [e]; simpa using h)
    omega
theorem uq {a b : Char} (h : a.toNat = b.toNat) : a = b := by
 apply Char.ext
 exact UInt32.toNat_inj.mp h
theorem Dw : m7 0 = zero := by decide +kernel
theorem iK {m : Nat} (h : m < 10 ^ 20) : ir (m7 m) = true /\ (m7 m).length <= 20 /\ 1 <= (m7 m).length /\ intText? (m7 m) = some ((m : Nat) : Int) := by
 have hl : (m7 m).length = (Nat.toDigits 10 m).length := by rw [bQ, jh, length_map]
 have h1 : 1 <= (m7 m).length := by rw [hl]; exact Nat.length_toDigits_pos
 have h2 : (m7 m).length <= 20 := by rw [hl]; exact (Nat.length_toDigits_le_iff Z0 Z0).mpr h
 refine ⟨?_, h2, h1, ?_⟩
 ·unfold ir
  rw [decide_eq_true h1, decide_eq_true h2, all_eq_true.mpr fun c hc => Dq (digit_range hc).1 (digit_range hc).2]
  by_cases hd : (m7 m).cps.toList.head? = some 48
  ·have hm : m = 0 := by
    rw [jh, List.head?_map] at hd
    cases e : (Nat.toDigits 10 m).head? with
    | none => rw [e] at hd; cases hd
    | some d =>
     rw [e] at hd
     have : d = '0' := uq (by simpa using hd)
     rw [this] at e
     exact zV m e
   subst hm
   rw [Dw, decide_eq_true (rfl : zero = zero)]
   decide +kernel
  ·rw [decide_eq_false hd]; rfl
 ·rw [intText_digits (fun c hc => digit_range hc) (fun z => by rw [bQ, z] at h1; simp at h1) Z1, jh, PySem.W.KIN.val_back]
theorem wO {c d : Nat} : ∀ {ys : List (List Nat)}, d ∈ inter c ys -> d = c \/ ∃ y ∈ ys, d ∈ y
 | [], h => by simp [inter] at h
 | [x], h => .inr ⟨x, Z2, h⟩
 | x :: z :: r, h => by
  have h' : d ∈ x ++ c :: inter c (z :: r) := h
  rcases mem_append.mp h' with h' | h'
  ·exact .inr ⟨x, Z2, h'⟩
  ·rcases mem_cons.mp h' with h' | h'
   ·exact .inl h'
   ·rcases wO h' with h'' | ⟨y, hy, h''⟩
    ·exact .inl h''
    ·exact .inr ⟨y, mem_cons_of_mem _ hy, h''⟩
theorem wW {ys : List Str} (h : ∀ y ∈ ys, dq y) {c : Nat} (hc : c ∈ (dotted ys).cps.toList) : c = 46 \/ (97 <= c /\ c <= 122) := by
 rw [gZ, eG] at hc
 rcases wO hc with e | ⟨y, hy, e⟩
 ·exact .inl e
 ·obtain ⟨z, hz, rfl⟩ := mem_map.mp hy
  exact .inr ((h z hz).ok c e)
theorem oR {ys : List Str} (h0 : ys ≠ []) (h : ∀ y ∈ ys, dq y) : ∃ c ∈ (dotted ys).cps.toList, 97 <= c /\ c <= 122 := by
 cases ys with
 | nil => exact absurd rfl h0
 | cons y r =>
  have hy := h y mem_cons_self
  cases e : y.cps.toList with
  | nil => have := hy.lo; rw [bQ, e] at this; simp at this
  | cons c q =>
   have hc : c ∈ y.cps.toList := by rw [e]; simp
   refine ⟨c, ?_, hy.ok c hc⟩
   rw [gZ, eG]
   obtain ⟨R, e1, _⟩ := pC 46 y.cps.toList (r.map (·.cps.toList))
   rw [map_cons, e1]
   exact mem_append_left _ hc
def brk : Str := "()"
theorem gf : brk.cps.toList = [40, 41] := by decide +kernel
theorem wC {z : Str} (h : Txt.endswith z brk = true) : ∃ pre, z.cps.toList = pre ++ [40, 41] := by
 unfold Txt.endswith at h
 have lb : brk.length = 2 := by decide +kernel
 rw [lb, and_eq_true, decide_eq_true_eq] at h
 obtain ⟨h1, h2⟩ := h
 unfold subAt at h2
 rw [lb] at h2
 have h3 : z.cps.extract (z.length - 2) (z.length - 2 + 2) = brk.cps := by simpa using h2
 have h4 := congrArg Array.toList h3
 rw [Array.toList_extract, List.extract_eq_take_drop, gf] at h4
 refine ⟨z.cps.toList.take (z.length - 2), ?_⟩
 have h5 : z.cps.toList.drop (z.length - 2) = [40, 41] := by
  rw [<- h4, take_of_length_le]
  rw [length_drop, <- bQ]; omega
 rw [<- h5, List.take_append_drop]
theorem qO {ys : List Str} (h : ∀ y ∈ ys, dq y) : Txt.endswith (dotted ys) brk = false := by
 cases e : Txt.endswith (dotted ys) brk with
 | false => rfl
 | true =>
  obtain ⟨pre, hp⟩ := wC e
  have : 41 ∈ (dotted ys).cps.toList := by rw [hp]; simp
  have := wW h this
  omega
theorem lq (a : Str) : Txt.endswith (a ++ brk) brk = true := by
 unfold Txt.endswith subAt
 have lb : brk.length = 2 := by decide +kernel
 rw [bO, lb, and_eq_true, decide_eq_true_eq]
 refine ⟨Z1, ?_⟩
 rw [beq_iff_eq]
 apply Array.toList_inj.mp
 rw [Array.toList_extract, List.extract_eq_take_drop, dO, gf, show a.length + 2 - 2 = a.length from by omega, bQ, List.drop_left]
 simp
theorem tW (a : Str) (h : a.length <= 1000000) : Txt.slice (a ++ brk) none (some (-2)) = a := by
 apply dR
 have lb : brk.length = 2 := by decide +kernel
 have hl : (a ++ brk).length = a.length + 2 := by rw [bO, lb]
 have := slice_closes_to_neg (x := a ++ brk) (j := -2) (k := (a.length : Int)) Z0 (by rw [hl]; omega) (by rw [hl]; omega)
 have e := eq_of_beq this
 rw [e]
 simp [dO, bQ]
end Mine
namespace L2
open PySem PySem.Spec PyProof.Rows
inductive DEq (K : Frag) (H : Hp) : Nat -> V -> V -> Prop where
 | non {n : Nat} : DEq K H n .non .non
 | bl {n : Nat} (b : Bool) : DEq K H n (.bl b) (.bl b)
 | int {n : Nat} (i : Int) : DEq K H n (.int i) (.int i)
 | str {n : Nat} (x : Str) : DEq K H n (.str x) (.str x)
 | same {n : Nat} (a : Addr) : DEq K H n (.ref a) (.ref a)
 | tup {n : Nat} {a b : Addr} {xs ys : List V} (ha : SqT K H a xs) (hb : SqT K H b ys) (hl : xs.length = ys.length) (h : ∀ (i : Nat) x y, xs[i]? = some x -> ys[i]? = some y -> DEq K H n x y) : DEq K H (n + 1) (.ref a) (.ref b)
 | lst {n : Nat} {a b : Addr} {xs ys : List V} (ha : SqL K H a xs) (hb : SqL K H b ys) (hl : xs.length = ys.length) (h : ∀ (i : Nat) x y, xs[i]? = some x -> ys[i]? = some y -> DEq K H n x y) : DEq K H (n + 1) (.ref a) (.ref b)
section
variable {X : Cx} {pins : OP} {σ : St} {H : Hp} {s : Shared}
theorem Vals.at {xs : List V} {us : List Value} (r : Vals xs us) {j : Nat} (h : j < us.length) : ∃ x, xs[j]? = some x /\ RelV x us[j] := by
 have hl := r.length
 have hx : xs[j]? = some xs[j] := getElem?_eq_getElem Z1
 obtain ⟨u, hu, ru⟩ := r.get hx
 rw [getElem?_eq_getElem h] at hu
 cases hu
 exact ⟨_, hx, ru⟩
theorem lr (n : Nat) : (List.range n).all (fun _ => true) = true := by simp
theorem DEq.at (I : Inv X pins σ H s) {n : Nat} {x y : V} (d : DEq X.K H n x y) : ∀ {A : Around} {u v : Value}, A.units + n < cLine -> RelV x u -> RelV y v -> SeqAt.EqAt A s u v true := by
 induction d with
 | non => intro A u v hu ru rv; cases ru; cases rv; exact SeqAt.EqAt.same _
 | bl b => intro A u v hu ru rv; cases ru; cases rv; exact SeqAt.EqAt.same _
 | int i =>
  intro A u v hu ru rv
  obtain ⟨t, rfl⟩ := ru
  obtain ⟨t', rfl⟩ := rv
  have := SeqAt.EqAt.int_int (A := A) (s := s) i t i t'
  rwa [beq_self_eq_true] at this
 | str x =>
  intro A u v hu ru rv
  obtain ⟨t, rfl⟩ := ru
  obtain ⟨t', rfl⟩ := rv
  have := SeqAt.EqAt.str_str (A := A) (s := s) x t x t'
  rwa [beq_self_eq_true] at this
 | same a => intro A u v hu ru rv; cases ru; cases rv; exact SeqAt.EqAt.same _
 | @tup n a b xs ys ha hb hl h ih =>
  intro A u v hu ru rv
  cases ru; cases rv
  by_cases hab : a = b
  ·subst hab; exact SeqAt.EqAt.same _
  ·obtain ⟨us, r1, p1, _⟩ := I.tuple ha
   obtain ⟨ws, r2, p2, _⟩ := I.tuple hb
   have l1 := r1.length
   have l2 := r2.length
   have := SeqAt.RcAt.tuples (A := A) (s := s) (e := fun _ => true) (show s.heap.IsTuple a us.toArray from p1) (show s.heap.IsTuple b ws.toArray from p2) Z1 fun j h1 h2 => by
    have h1' : j < us.length := by simpa using h1
    have h2' : j < ws.length := by simpa using h2
    obtain ⟨x, ex, rx⟩ := r1.at h1'
    obtain ⟨y, ey, ry⟩ := r2.at h2'
    exact ih j x y ex ey (A := A.in1) (show A.units + 1 + n < cLine by omega) (by simpa using rx) (by simpa using ry)
   rw [lr, show (us.toArray.size == ws.toArray.size) = true from by simp; omega] at this
   exact SeqAt.EqAt.of_refs hab this
 | @lst n a b xs ys ha hb hl h ih =>
  intro A u v hu ru rv
  cases ru; cases rv
  by_cases hab : a = b
  ·subst hab; exact SeqAt.EqAt.same _
  ·obtain ⟨us, r1, p1, _⟩ := I.list ha
   obtain ⟨ws, r2, p2, _⟩ := I.list hb
   have l1 := r1.length
   have l2 := r2.length
   have := SeqAt.RcAt.lists (A := A) (s := s) (e := fun _ => true) p1.isList p2.isList Z6 Z1 fun j h1 h2 => by
    have h1' : j < us.length := by simpa using h1
    have h2' : j < ws.length := by simpa using h2
    obtain ⟨x, ex, rx⟩ := r1.at h1'
    obtain ⟨y, ey, ry⟩ := r2.at h2'
    exact ih j x y ex ey (A := A.in1) (show A.units + 1 + n < cLine by omega) (by simpa using rx) (by simpa using ry)
   rw [lr] at this
   exact SeqAt.EqAt.of_refs hab this
def DSq (K : Frag) (H : Hp) (a b : Addr) : Prop := ∃ (n : Nat) (xs ys : List V), n <= 60 /\ xs.length = ys.length /\ ((SqT K H a xs /\ SqT K H b ys) \/ (SqL K H a xs /\ SqL K H b ys)) /\ ∀ (i : Nat) x y, xs[i]? = some x -> ys[i]? = some y -> DEq K H n x y
def Om (K : Frag) (r : Bool) : R2 := fun x y H Q => ∃ a b, x = .ref a /\ y = .ref b /\ DSq K H a b /\ Q (.bl r) H
theorem Bp {K : Frag} (hK : X.K = K) (hu : X.A.units + 64 < cLine) : OpR X (compareOp .Eq) (Om K true) := by
 subst hK
 intro pins s σ H x y v u Q I rx ry h
 obtain ⟨a, b, rfl, rfl, ⟨n, xs, ys, hn, hl, hs, hd⟩, q⟩ := h
 cases rx; cases ry
 have fin : EP X pins σ Q (.bool true) s := ⟨.bl true, H, I, rfl, q⟩
 rcases hs with ⟨ha, hb⟩ | ⟨ha, hb⟩
 ·obtain ⟨us, r1, p1, _⟩ := I.tuple ha
  obtain ⟨ws, r2, p2, _⟩ := I.tuple hb
  have l1 := r1.length
  have l2 := r2.length
  refine SeqAt.eq_tupleAt (e := fun _ => true) (show s.heap.IsTuple a us.toArray from p1) (show s.heap.IsTuple b ws.toArray from p2) Z1 (fun j h1 h2 => ?_) ?_
  ·have h1' : j < us.length := by simpa using h1
   have h2' : j < ws.length := by simpa using h2
   obtain ⟨x, ex, rx⟩ := r1.at h1'
   obtain ⟨y, ey, ry⟩ := r2.at h2'
   exact DEq.at I (hd j x y ex ey) (A := X.A.in1) (show X.A.units + 1 + n < cLine by omega) (by simpa using rx) (by simpa using ry)
  ·rw [lr, show (us.toArray.size == ws.toArray.size) = true from by simp; omega]
   exact fin
 ·obtain ⟨us, r1, p1, _⟩ := I.list ha
  obtain ⟨ws, r2, p2, _⟩ := I.list hb
  have l1 := r1.length
  have l2 := r2.length
  refine SeqAt.eq_listAt (e := fun _ => true) p1.isList p2.isList Z6 Z1 (fun j h1 h2 => ?_) ?_
  ·have h1' : j < us.length := by simpa using h1
   have h2' : j < ws.length := by simpa using h2
   obtain ⟨x, ex, rx⟩ := r1.at h1'
   obtain ⟨y, ey, ry⟩ := r2.at h2'
   exact DEq.at I (hd j x y ex ey) (A := X.A.in1) (show X.A.units + 1 + n < cLine by omega) (by simpa using rx) (by simpa using ry)
  ·rw [lr]
   exact fin
theorem Ha {K : Frag} (hK : X.K = K) (hu : X.A.units + 64 < cLine) : OpR X (compareOp .NotEq) (Om K false) := by
 subst hK
 intro pins s σ H x y v u Q I rx ry h
 obtain ⟨a, b, rfl, rfl, ⟨n, xs, ys, hn, hl, hs, hd⟩, q⟩ := h
 cases rx; cases ry
 have fin : EP X pins σ Q (.bool false) s := ⟨.bl false, H, I, rfl, q⟩
 rcases hs with ⟨ha, hb⟩ | ⟨ha, hb⟩
 ·obtain ⟨us, r1, p1, _⟩ := I.tuple ha
  obtain ⟨ws, r2, p2, _⟩ := I.tuple hb
  have l1 := r1.length
  have l2 := r2.length
  have := SeqAt.RcNeAt.tuples (A := X.A) (s := s) (e := fun _ => true) (show s.heap.IsTuple a us.toArray from p1) (show s.heap.IsTuple b ws.toArray from p2) Z1 fun j h1 h2 => by
   have h1' : j < us.length := by simpa using h1
   have h2' : j < ws.length := by simpa using h2
   obtain ⟨x, ex, rx⟩ := r1.at h1'
   obtain ⟨y, ey, ry⟩ := r2.at h2'
   exact DEq.at I (hd j x y ex ey) (A := X.A.in1) (show X.A.units + 1 + n < cLine by omega) (by simpa using rx) (by simpa using ry)
  rw [lr, show (us.toArray.size == ws.toArray.size) = true from by simp; omega] at this
  exact this X.prog X.w X.xe _ fin
 ·obtain ⟨us, r1, p1, _⟩ := I.list ha
  obtain ⟨ws, r2, p2, _⟩ := I.list hb
  have l1 := r1.length
  have l2 := r2.length
  have := SeqAt.RcNeAt.lists (A := X.A) (s := s) (e := fun _ => true) p1.isList p2.isList Z6 Z1 fun j h1 h2 => by
   have h1' : j < us.length := by simpa using h1
   have h2' : j < ws.length := by simpa using h2
   obtain ⟨x, ex, rx⟩ := r1.at h1'
   obtain ⟨y, ey, ry⟩ := r2.at h2'
   exact DEq.at I (hd j x y ex ey) (A := X.A.in1) (show X.A.units + 1 + n < cLine by omega) (by simpa using rx) (by simpa using ry)
  rw [lr] at this
  exact this X.prog X.w X.xe _ fin
end
def Itz (K : Frag) (a b : Addr) : It :=
 ⟨fun i H => ∃ xs ys x y, SqL K H a xs /\ SqL K H b ys /\ xs[i]? = some x /\ ys[i]? = some y,
  fun i H v H' => ∃ p x y, v = .ref p /\ H p = none /\ (∀ xs, SqL K H a xs -> xs[i]? = some x) /\ (∀ ys, SqL K H b ys -> ys[i]? = some y) /\ H' = upd H p (.tup [x, y]),
  fun i H => ∃ xs ys, SqL K H a xs /\ SqL K H b ys /\ (xs.length <= i \/ ys.length <= i)⟩
theorem HH {P : Program} {w : World} {K : Frag} {elts : List Expr} {x1 : Nat} {tpos : Pos} (a b z TI TO i1 i2 : Addr) (D : ZipApart z TI TO i1 i2 a b) :
  Turn P w K (.Tuple elts x1 tpos) (Itz K a b) [z, TI, TO, i1, i2] z (fun i h => IsZip h z TI TO .none /\ IsPair h TI (.ref i1) (.ref i2) /\ (∃ u v, IsPair h TO u v) /\ h.IsListIter i1 a i /\ h.IsListIter i2 b i) where
 mem := by simp
 obj := fun i h st c hc => by
  obtain ⟨hz, hTI, ⟨u, v, hTO⟩, h1, h2⟩ := st
  simp only [mem_cons, not_mem_nil, or_false] at hc
  rcases hc with rfl | rfl | rfl | rfl | rfl
  ·exact ⟨_, hz, fun v z => by cases z⟩
  ·exact ⟨_, hTI, fun v z => by cases z⟩
  ·exact ⟨_, hTO, fun v z => by cases z⟩
  ·obtain ⟨o, e, _, d⟩ := h1; exact ⟨o, e, fun v z => by rw [d] at z; cases z⟩
  ·obtain ⟨o, e, _, d⟩ := h2; exact ⟨o, e, fun v z => by rw [d] at z; cases z⟩
 keep := fun i h h' st k => by
  obtain ⟨hz, hTI, ⟨u, v, hTO⟩, h1, h2⟩ := st
  exact ⟨k z Z2 _ hz, k TI Z2 _ hTI, ⟨u, v, k TO Z2 _ hTO⟩, h1.at fun o e => k i1 Z2 o e, h2.at fun o e => k i2 Z2 o e⟩
 item := by
  intro X hP hw hK hc i pins s σ H E I hf st hg
  subst hP hw hK
  obtain ⟨xs, ys, x, y, hq, hq2, hx, hy⟩ := hg
  obtain ⟨hz, hTI, ⟨u0, v0, hTO⟩, h1, h2⟩ := st
  obtain ⟨us, rv, p, hsz⟩ := I.list hq
  obtain ⟨ws, rw', p', hsz'⟩ := I.list hq2
  obtain ⟨u, hu, ru⟩ := rv.get hx
  obtain ⟨v, hv, rv2⟩ := rw'.get hy
  have lt : ∀ {c o}, s.heap.get? c = some o -> c ≠ s.heap.objs.size := fun e => ne_of_lt (Heap.lt_size e)
  refine wpAny_pyNext_zip_item D hz hTI hTO h1 h2 p.isList p'.isList (x := u) (y := v) (by simpa using hu) (by simpa using hv) fun h' a1 a2 a3 a4 a5 a6 hk => ?_
  refine ⟨_, rfl, wpAny_letOwnedTupleGo_zip a1 fun h'' hz' hs' => ?_⟩
  have zlt := lt hz
  have tlt := lt hTO
  have hfr : H s.heap.objs.size = none := I.hok.fresh (le_refl _)
  have hT : IsPair h'' s.heap.objs.size u v := (hs'.2 _ (Ne.symm zlt)).trans a5
  have kk : ∀ c o, c ≠ z -> c ≠ TO -> c ≠ i1 -> c ≠ i2 -> s.heap.get? c = some o -> h''.get? c = some o := fun c o q1 q2 q3 q4 e => (hs'.2 c q1).trans (hk c o q1 q2 q3 q4 e)
  have fz := hf z Z2
  have fTO := hf TO Z2
  have f1 := hf i1 Z2
  have f2 := hf i2 Z2
  have hch : ∀ c, c ∉ [z, TO, i1, i2] -> c ≠ z /\ c ≠ TO /\ c ≠ i1 /\ c ≠ i2 := fun c hc => by
   simp only [mem_cons, not_mem_nil, or_false, not_or] at hc
   exact ⟨hc.1, hc.2.1, hc.2.2.1, hc.2.2.2⟩
  have trk : ∀ c o, H c = some o -> c ≠ z /\ c ≠ TO /\ c ≠ i1 /\ c ≠ i2 := fun c o e => ⟨(fun q => by rw [q, fz.1] at e; cases e), (fun q => by rw [q, fTO.1] at e; cases e), (fun q => by rw [q, f1.1] at e; cases e), (fun q => by rw [q, f2.1] at e; cases e)⟩
  have new : upd H s.heap.objs.size (.tup [x, y]) s.heap.objs.size = some (.tup [x, y]) := ao
  have I1 : Inv X pins σ (upd H s.heap.objs.size (.tup [x, y])) { s with heap := h'' } := by
   refine I.step (g' := s.gens) (d' := s.drawn) (t' := s.toks) (ch := [z, TO, i1, i2]) (fun c hc => ?_) (fun c o _ _ hc e _ => ?_) (fun c o _ _ hc e _ => ?_) (fun c o hc e n => ?_) (fun c o hc e => ?_) (fun c q e => ?_) (fun c o q e => ?_) (fun c q e => ?_) (fun m hm => ?_) (fun c o e => ?_) I.bare
   ·simp only [mem_cons, not_mem_nil, or_false] at hc
    rcases hc with rfl | rfl | rfl | rfl
    ·exact ⟨fz.2.2.2.1, fz.2.1, fz.2.2.2.2.1, fz.2.2.2.2.2⟩
    ·exact ⟨fTO.2.2.2.1, fTO.2.1, fTO.2.2.2.2.1, fTO.2.2.2.2.2⟩
    ·exact ⟨f1.2.2.2.1, f1.2.1, f1.2.2.2.2.1, f1.2.2.2.2.2⟩
    ·exact ⟨f2.2.2.2.1, f2.2.1, f2.2.2.2.2.1, f2.2.2.2.2.2⟩
   ·obtain ⟨q1, q2, q3, q4⟩ := hch c hc
    exact kk c o q1 q2 q3 q4 e
   ·obtain ⟨q1, q2, q3, q4⟩ := hch c hc
    exact ⟨o.slots, kk c o q1 q2 q3 q4 e⟩
   ·rw [aR (lt e)]; exact n
   ·obtain ⟨q1, q2, q3, q4⟩ := hch c hc
    exact ⟨o, kk c o q1 q2 q3 q4 e⟩
   ·rw [aR (aQ e hfr)]; exact e
   ·rw [aR (aQ e hfr)]; exact e
   ·exact ⟨#[], by rw [aR (aQ e hfr), e]; simp⟩
   ·obtain ⟨o, es, ep, ho, r⟩ := hm
    exact ⟨o, es, ep, kk _ o (Ne.symm fz.2.1) (Ne.symm fTO.2.1) (Ne.symm f1.2.1) (Ne.symm f2.2.1) ho, r⟩
   ·by_cases hcT : c = s.heap.objs.size
    ·subst hcT
     rw [ao] at e
     cases e
     exact ⟨by show 2 <= sizeLine; decide, [u, v], .cons ru (.cons rv2 .nil), ⟨_, hT, rfl, _, rfl⟩⟩
    ·rw [aR hcT] at e
     obtain ⟨q1, q2, q3, q4⟩ := trk c o e
     refine (I.hok c o e).stay (fun d w' hd q => ?_) (fun d q => ?_) fun d w' q => ?_
     ·have : d ≠ z /\ d ≠ TO /\ d ≠ i1 /\ d ≠ i2 := by
       rcases hd with rfl | hd
       ·exact ⟨q1, q2, q3, q4⟩
       ·exact trk d _ hd
      exact kk d w' this.1 this.2.1 this.2.2.1 this.2.2.2 q
     ·rw [aR (aQ q hfr)]; exact q
     ·rw [aR (aQ q hfr)]; exact q
  refine ⟨.ref s.heap.objs.size, _, I1, rfl, ⟨s.heap.objs.size, x, y, rfl, hfr, fun zs hq' => by rw [I.list_inj hq' hq]; exact hx, fun zs hq' => by rw [I.list_inj hq' hq2]; exact hy, rfl⟩, ?_, fun c hc => ?_⟩
  ·exact ⟨hz', kk TI _ D.TIz D.TITO D.TIi1 D.TIi2 hTI, ⟨u, v, (hs'.2 TO D.TOz).trans a2⟩, a3.at fun o e => (hs'.2 i1 D.i1z).trans e, a4.at fun o e => (hs'.2 i2 D.i2z).trans e⟩
  ·have hc0 := (hf c hc).1
   have hne : c ≠ s.heap.objs.size := by
    simp only [mem_cons, not_mem_nil, or_false] at hc
    rcases hc with rfl | rfl | rfl | rfl | rfl
    ·exact lt hz
    ·exact lt hTI
    ·exact lt hTO
    ·obtain ⟨_, e, _⟩ := h1; exact lt e
    ·obtain ⟨_, e, _⟩ := h2; exact lt e
   rw [aR hne]; exact hc0
 done := by
  intro X hP hw hK hc i pins s σ H E I hf st hg
  subst hP hw hK
  obtain ⟨xs, ys, hq, hq2, hend⟩ := hg
  obtain ⟨hz, hTI, ⟨u0, v0, hTO⟩, h1, h2⟩ := st
  obtain ⟨us, rv, p, hsz⟩ := I.list hq
  obtain ⟨ws, rw', p', hsz'⟩ := I.list hq2
  have l1 := rv.length
  have l2 := rw'.length
  refine wpAny_pyNext_zip_end (I.ok.hd hc) D hz hTI hTO h1 h2 p.isList p'.isList (by rcases hend with q | q; exact .inl Z6; exact .inr Z6) fun h' hk => ⟨rfl, ?_⟩
  have fz := hf z Z2
  have fTO := hf TO Z2
  have f1 := hf i1 Z2
  have f2 := hf i2 Z2
  have hch : ∀ c, c ∉ [z, TO, i1, i2] -> c ≠ z /\ c ≠ TO /\ c ≠ i1 /\ c ≠ i2 := fun c hc => by
   simp only [mem_cons, not_mem_nil, or_false, not_or] at hc
   exact ⟨hc.1, hc.2.1, hc.2.2.1, hc.2.2.2⟩
  have trk : ∀ c o, H c = some o -> c ≠ z /\ c ≠ TO /\ c ≠ i1 /\ c ≠ i2 := fun c o e => ⟨(fun q => by rw [q, fz.1] at e; cases e), (fun q => by rw [q, fTO.1] at e; cases e), (fun q => by rw [q, f1.1] at e; cases e), (fun q => by rw [q, f2.1] at e; cases e)⟩
  refine I.step (H' := H) (g' := s.gens) (d' := s.drawn) (t' := s.toks) (ch := [z, TO, i1, i2]) (fun c hc => ?_) (fun c o _ _ hc e _ => ?_) (fun c o _ _ hc e _ => ?_) (fun c o hc e n => n) (fun c o hc e => ?_) (fun c q e => e) (fun c o q e => e) (fun c q e => ⟨#[], by rw [e]; simp⟩) (fun m hm => ?_) (fun c o e => ?_) I.bare
  ·simp only [mem_cons, not_mem_nil, or_false] at hc
   rcases hc with rfl | rfl | rfl | rfl
   ·exact ⟨fz.2.2.2.1, fz.2.1, fz.2.2.2.2.1, fz.2.2.2.2.2⟩
   ·exact ⟨fTO.2.2.2.1, fTO.2.1, fTO.2.2.2.2.1, fTO.2.2.2.2.2⟩
   ·exact ⟨f1.2.2.2.1, f1.2.1, f1.2.2.2.2.1, f1.2.2.2.2.2⟩
   ·exact ⟨f2.2.2.2.1, f2.2.1, f2.2.2.2.2.1, f2.2.2.2.2.2⟩
  ·obtain ⟨q1, q2, q3, q4⟩ := hch c hc
   exact hk c o q1 q2 q3 q4 e
  ·obtain ⟨q1, q2, q3, q4⟩ := hch c hc
   exact ⟨o.slots, hk c o q1 q2 q3 q4 e⟩
  ·obtain ⟨q1, q2, q3, q4⟩ := hch c hc
   exact ⟨o, hk c o q1 q2 q3 q4 e⟩
  ·obtain ⟨o, es, ep, ho, r⟩ := hm
   exact ⟨o, es, ep, hk _ o (Ne.symm fz.2.1) (Ne.symm fTO.2.1) (Ne.symm f1.2.1) (Ne.symm f2.2.1) ho, r⟩
  ·obtain ⟨q1, q2, q3, q4⟩ := trk c o e
   refine (I.hok c o e).stay (fun d w' hd q => ?_) (fun d q => q) fun d w' q => q
   have : d ≠ z /\ d ≠ TO /\ d ≠ i1 /\ d ≠ i2 := by
    rcases hd with rfl | hd
    ·exact ⟨q1, q2, q3, q4⟩
    ·exact trk d _ hd
   exact hk d w' this.1 this.2.1 this.2.2.1 this.2.2.2 q
 self := fun A i s Q E st h => wpAny_pyIter_zip st.1 h
section
variable {X : Cx} {K : Frag}
def Vj (K : Frag) (ta : TA) : TI := fun σ H R => ta σ H fun vs H1 => ∃ a b, vs = [.ref a, .ref b] /\ (∃ xs, SqL K H1 a xs) /\ (∃ ys, SqL K H1 b ys) /\ R (Itz K a b) H1
theorem Iv {a b : Expr} {ta : TA} {p pos : Pos} {elts : List Expr} {x1 : Nat} {tpos : Pos} (hg : Gl X "zip") (hm : X.mg "zip" = none) (ha : PA X [a, b] ta) (hs : starEach [a, b] X.env = [(false, eval a X.env), (false, eval b X.env)] := by rfl) (hs2 : starEach [b] X.env = [(false, eval b X.env)] := by rfl) :
  PI X (.Tuple elts x1 tpos) (.Call (.Name "zip" p) [a, b] [] pos) (Vj X.K ta) := by
 intro pins s σ H R I h
 refine Call_ (qX I hg hm boot_zip (PyProof.Rows.callWith_type1 (thn (ha pos pins s σ H _ I h) fun us s1 ⟨vs, H1, I1, r1, q1⟩ => ?_) (by rw [hs, hs2]) (by rw [hs2]; rfl)))
 obtain ⟨a1, b1, e, ⟨xs, hx⟩, ⟨ys, hy⟩, q⟩ := q1
 subst e
 obtain ⟨u, u2, rfl, rx, ry⟩ := vals2 r1
 cases rx; cases ry
 obtain ⟨vs1, _, p1, _⟩ := I1.list hx
 obtain ⟨vs2, _, p2, _⟩ := I1.list hy
 have lt1 : a1 < s1.heap.objs.size := by obtain ⟨o, e, _⟩ := p1.isList; exact Heap.lt_size e
 have lt2 : b1 < s1.heap.objs.size := by obtain ⟨o, e, _⟩ := p2.isList; exact Heap.lt_size e
 refine call_zip_2 p1.isList p2.isList fun h' z1 z2 z3 z4 z5 z6 zk => ?_
 refine wpAny_pyIter_zip z1 ?_
 have I2 : Inv X pins σ H1 { s1 with heap := h' } := I1.kept (t' := s1.toks) zk
 refine ⟨_, [s1.heap.objs.size + 4, s1.heap.objs.size + 2, s1.heap.objs.size + 3, s1.heap.objs.size, s1.heap.objs.size + 1], _, _, H1, rfl, I2, HH a1 b1 _ _ _ _ _ (zipApart_new lt1 lt2), ⟨z1, z2, ⟨_, _, z3⟩, z4, z5⟩, fun c hc => ?_, q⟩
 have hle : s1.heap.objs.size <= c := by
  simp only [mem_cons, not_mem_nil, or_false] at hc
  rcases hc with h | h | h | h | h <;> rw [h] <;> omega
 exact I1.fpOk hle (I1.hok.fresh hle)
theorem G5 {a b : Expr} {ta : TA} {p pos : Pos} {elts : List Expr} {x1 : Nat} {tpos : Pos} (h : X.K = K) (hg : Gl X "zip") (hm : X.mg "zip" = none) (ha : PA X [a, b] ta) (hs : starEach [a, b] X.env = [(false, eval a X.env), (false, eval b X.env)] := by rfl) (hs2 : starEach [b] X.env = [(false, eval b X.env)] := by rfl) :
  PI X (.Tuple elts x1 tpos) (.Call (.Name "zip" p) [a, b] [] pos) (Vj K ta) := by subst h; exact Iv hg hm ha hs hs2
theorem nW {es : List Expr} {k : Nat} {t : TGs} {n : Nat} {pos : Pos} (hK : X.K = K) (hc : X.calm = true) (h : PGs X es t)
  (hn : (assignEach es X.env).length = n := by rfl) (hst : (assignEach es X.env).findIdx? (·.1) = none := by rfl) : PG X (.Tuple es k pos) (Lh K n t) := by subst hK; exact Mx hc h hn hst
end
theorem Gm {K : Frag} {a b : Addr} {xs ys : List V} {te : TE} {τ0 : St} {H : Hp} {Fin : List V -> Hp -> Prop} (f : Nat -> V) (hn : xs.length <= sizeLine) (hl : xs.length = ys.length) (ha : SqL K H a xs) (hb : SqL K H b ys)
  (hte : ∀ (i : Nat) x y H' Q, xs[i]? = some x -> ys[i]? = some y -> aB H H' -> (∀ H'', aB H' H'' -> Q (f i) H'') -> te ((τ0.set 0 (some x)).set 1 (some y)) H' Q)
  (hfin : ∀ H', aB H H' -> Fin ((List.range xs.length).map f) H') : nT (Lh K 2 (Gx (dI 0) (Gx (dI 1) V2))) oY te (Itz K a b) τ0 H Fin := by
 refine ⟨fun i m τ zs H' => m = xs.length - i /\ i <= xs.length /\ zs = (List.range i).map f /\ aB H H' /\ ∃ u v, τ = (τ0.set 0 u).set 1 v \/ τ = τ0, ⟨xs.length, rfl, zero_le _, rfl, aB.refl _, none, none, .inr rfl⟩, ?_⟩
 rintro i m τ zs H' ⟨rfl, hi, rfl, sm, u, v, hτ⟩
 by_cases hlt : i < xs.length
 ·have hx : xs[i]? = some xs[i] := by simp [hlt]
  have hy : ys[i]? = some (ys[i]'Z1) := by simp [show i < ys.length by omega]
  refine .inr ⟨⟨xs, ys, _, _, sm.seq ha, sm.seq hb, hx, hy⟩, fun x H'' y => ?_⟩
  obtain ⟨p, x1, y1, rfl, hp, e1, e2, rfl⟩ := y
  have e3 : x1 = xs[i] := by have := e1 xs (sm.seq ha); rw [hx] at this; exact (Option.some.inj this).symm
  have e4 : y1 = ys[i]'Z1 := by have := e2 ys (sm.seq hb); rw [hy] at this; exact (Option.some.inj this).symm
  subst e3; subst e4
  have sm2 : aB H' (upd H' p (.tup [xs[i], ys[i]'Z1])) := aB.new hp
  refine ⟨p, _, rfl, SqT.of ao, rfl, _, _, rfl, _, _, rfl, rfl, ?_⟩
  have e5 : (τ.set 0 (some xs[i])).set 1 (some (ys[i]'Z1)) = (τ0.set 0 (some xs[i])).set 1 (some (ys[i]'Z1)) := by
   rcases hτ with rfl | rfl
   ·rw [List.set_comm (l := List.set τ0 0 u) _ _ (show (1 : Nat) ≠ 0 by decide), set_set, set_set]
   ·rfl
  unfold oY
  rw [e5]
  dsimp only
  rw [if_pos rfl]
  refine hte i _ _ _ _ hx hy (sm.trans sm2) fun H4 s4 => ?_
  refine ⟨by rw [length_map, length_range]; omega, xs.length - (i + 1), Z1, rfl, hlt, by rw [range_succ, map_append]; rfl, sm.trans (sm2.trans s4), _, _, .inl rfl⟩
 ·have e : i = xs.length := by omega
  subst e
  exact .inl ⟨⟨xs, ys, sm.seq ha, sm.seq hb, .inl (le_refl _)⟩, hfin H' sm⟩
def Gw (lo st : Int) (n : Nat) : It := ⟨fun i _ => i < n, fun i H x H' => H' = H /\ x = .int (lo + (i : Nat) * st), fun i _ => n <= i⟩
theorem Ah {P : Program} {w : World} {K : Frag} {tg : Expr} (it : Addr) (lo st : Int) (n : Nat) : Turn P w K tg (Gw lo st n) [it] it (fun i h => IsRangeIter h it (lo + (i : Nat) * st) ((n : Int) - (i : Nat)) st) where
 mem := by simp
 obj := fun i h s b hb => by
  have e : b = it := by simpa using hb
  subst e
  exact ⟨_, s, fun v z => by
   have z' : Data.fields _ = Data.cell v := z
   cases z'⟩
 keep := fun i h h' s k => k it Z2 _ s
 item := by
  intro X hP hw hK hc i pins s σ H E I hf stt hg
  subst hP hw hK
  obtain ⟨f0, f1, f2, f3, f4, f5⟩ := hf it Z2
  have W := Walks.range (prog := X.prog) (w := X.w) (I.ok.hd hc) it lo st n
  refine W.item i s _ _ hg stt fun v h' tk hv st' kk => ?_
  obtain ⟨t, rfl⟩ := hv
  have I1 : Inv X pins σ H { s with heap := h', toks := tk } := I.turned (fun b o hb e => kk b o (by simpa using hb) e) f0 f1 f3 f4 f5
  exact ⟨_, rfl, Ag (s := { s with heap := h', toks := tk }) (n := "range_iterator") st' rfl rfl Z0 ⟨.int (lo + (i : Nat) * st), H, I1, ⟨t, rfl⟩, ⟨rfl, rfl⟩, st', fun b hb => (hf b hb).1⟩⟩
 done := by
  intro X hP hw hK hc i pins s σ H E I hf st hg
  subst hP hw hK
  obtain ⟨f0, f1, f2, f3, f4, f5⟩ := hf it Z2
  exact wpAny_pyNext_range_end (I.ok.hd hc) st (by have : n <= i := hg; omega) fun h' eb => ⟨rfl, I.turned (t' := s.toks) (fun b o hb e => eb b o hb e) f0 f1 f3 f4 f5⟩
 self := fun _ _ _ _ _ st h => wpAny_pyIter_rangeiter st h
section
variable {X : Cx} {K : Frag} {tg : Expr}
def V4 (ta : TA) : TI := fun σ H R => ta σ H fun vs H1 => ∃ i j c : Int, vs = [.int i, .int j, .int c] /\ c ≠ 0 /\ c.natAbs < 1073741824 /\ Builtin.Range.small i j c = true /\ 0 <= Builtin.Range.rangeSize i j c /\ R (Gw i c (Builtin.Range.rangeSize i j c).toNat) H1
theorem wg {a b c : Expr} {ta : TA} {p pos : Pos} (hg : Gl X "range") (hm : X.mg "range" = none) (ha : PA X [a, b, c] ta) (he : starEach [a, b, c] X.env = (false, eval a X.env) :: starEach [b, c] X.env := by rfl) (hpl : (backTo pos (starEach [b, c] X.env)).any (·.1) = false := by rfl) :
  PI X tg (.Call (.Name "range" p) [a, b, c] [] pos) (V4 ta) := by
 intro pins s σ H R I h
 refine Call_ (qX I hg hm boot_range (PyProof.Rows.callWith_type1 (thn (ha pos pins s σ H _ I h) fun us s1 ⟨vs, H1, I1, r1, q1⟩ => ?_) he hpl))
 obtain ⟨i, j, k, e, hk, hk2, hsm, hn, q⟩ := q1
 subst e
 cases r1 with
 | cons r rr =>
  cases rr with
  | cons r' rr =>
   cases rr with
   | cons r'' rr =>
    cases rr
    obtain ⟨t, rfl⟩ := r
    obtain ⟨t', rfl⟩ := r'
    obtain ⟨t'', rfl⟩ := r''
    refine call_range_3 hk ?_ (.inl (PyProof.noPylong_small hk2))
    refine wpAny_pyIter_range (IsRange.new ..) hsm ?_
    have I2 : Inv X pins σ H1 { s1 with heap := s1.heap.push { cls := .type "range", data := .fields #[.int i t, .int j t', .int k t''] }, toks := s1.toks } := I1.kept fun b o e => Heap.get?_push_of_some _ e
    refine ⟨_, [(s1.heap.push { cls := .type "range", data := .fields #[.int i t, .int j t', .int k t''] }).objs.size], _, _, H1, rfl,
     I2.kept (t' := s1.toks) fun b o e => Heap.get?_push_of_some _ e, Ah _ i k (Builtin.Range.rangeSize i j k).toNat, ?_, fun b hb => ?_, q⟩
    ·have e1 : i + ((0 : Nat) : Int) * k = i := by simp
     have e2 : (((Builtin.Range.rangeSize i j k).toNat : Nat) : Int) - ((0 : Nat) : Int) = Builtin.Range.rangeSize i j k := by omega
     show IsRangeIter _ _ (i + ((0 : Nat) : Int) * k) ((((Builtin.Range.rangeSize i j k).toNat : Nat) : Int) - ((0 : Nat) : Int)) k
     rw [e1, e2]
     exact Heap.get?_push_size _ rfl
    ·have e : b = (s1.heap.push { cls := .type "range", data := .fields #[.int i t, .int j t', .int k t''] }).objs.size := by simpa using hb
     subst e
     exact I2.fpOk (le_refl _) (I2.hok.fresh (le_refl _))
end
theorem uR {lo st : Int} {n : Nat} {g : TG} {tb : TS} {D : Ends} {σ : St} {H : Hp} (Pv : Nat -> St -> Hp -> Prop) (h0 : Pv 0 σ H)
  (hs : ∀ (i : Nat) σ H, i < n -> Pv i σ H -> g (.int (lo + (i : Nat) * st)) σ H fun σ2 H2 => tb { D with nx := Pv (i + 1), ct := Pv (i + 1), bk := D.nx } σ2 H2) (hd : ∀ σ H, Pv n σ H -> D.nx σ H) :
  ∃ W : Nat -> Nat -> St -> Hp -> Prop, (∃ m, W 0 m σ H) /\ ∀ i m σ H, W i m σ H ->
   ((Gw lo st n).stop i H /\ D.nx σ H) \/ ((Gw lo st n).go i H /\ ∃ N : St -> Hp -> Prop, (∀ σ' H', N σ' H' -> ∃ m', m' < m /\ W (i + 1) m' σ' H') /\ ∀ x H', (Gw lo st n).yld i H x H' -> g x σ H' fun σ2 H2 => tb { D with nx := N, ct := N, bk := D.nx } σ2 H2) := by
 refine ⟨fun i m σ H => m = n - i /\ i <= n /\ Pv i σ H, ⟨n, Z2, zero_le _, h0⟩, ?_⟩
 rintro i m σ H ⟨rfl, hi, p⟩
 by_cases hlt : i < n
 ·refine .inr ⟨hlt, Pv (i + 1), fun σ' H' p' => ⟨n - (i + 1), Z1, rfl, hlt, p'⟩, fun x H' y => ?_⟩
  obtain ⟨e, y⟩ := y
  subst e y
  exact hs i σ _ hlt p
 ·have e : i = n := by omega
  subst e
  exact .inl ⟨le_refl _, hd σ H p⟩
section
variable {X : Cx} {K : Frag}
theorem GZ (hc : X.calm = true) : fY X (.builtin "any") (Mu X.K fun bs => bs.any id) := by
 intro pins s σ H xs us Q I r h
 obtain ⟨p, bs, rfl, hq, q⟩ := h
 obtain ⟨u, rfl, rx⟩ := vals1 r
 cases (show u = Value.ref p from rx)
 obtain ⟨its, rv, pl, hz⟩ := I.list hq
 have hlen := rv.length
 rw [length_map] at hlen
 have hne : p ≠ s.heap.objs.size := by
  obtain ⟨o, e, _⟩ := pl.isList
  exact ne_of_lt (Heap.lt_size e)
 refine call_any_walk (wpAny_pyIter_list pl.isList ?_)
 refine ⟨s.heap.objs.size, _, _, _, _, _, fun i => bs.getD i false, rfl, Walks.list (show X.A.in1.handled = none from I.ok.hd hc) s.heap.objs.size p hne its.toArray, ⟨⟨_, Heap.get?_push_size _ rfl, rfl, rfl⟩, ?_⟩, fun i v s' Q' E' hP hQ => ?_, fun h' tk kk => ?_⟩
 ·exact pl.isList.at fun o e => Heap.get?_push_of_some _ e
 ·have e := Gu rv (by simpa using hP)
  subst e
  exact wpAny_truthy_bool hQ
 ·have e : (List.range its.toArray.size).any (fun i => bs.getD i false) = bs.any id := by rw [size_toArray, <- hlen]; exact range_any bs
  rw [e]
  refine ⟨.bl _, H, I.kept fun b o e => ?_, rfl, q⟩
  exact kk b o (fun z => absurd (Heap.lt_size e) (by rw [mem_singleton.mp z]; exact lt_irrefl _)) (Heap.get?_push_of_some _ e)
theorem p8 : fY X (.type "int") (fun xs H Q => ∃ z n, xs = [.str z] /\ intText? z = some n /\ z.length <= 640 /\ Q (.int n) H) := by
 intro pins s σ H xs us Q I r h
 obtain ⟨z, n, rfl, hn, hl, q⟩ := h
 obtain ⟨u, rfl, t, rfl⟩ := vals1 r
 exact PySem.W.KIN.call_text hn hl ⟨.int n, H, I.tok _, ⟨_, rfl⟩, q⟩
def O3 : V -> List V -> Hp -> VK -> Prop := fun x vs H Q => ∃ z y, x = .str z /\ vs = [.str y] /\ Q (.bl (Txt.endswith z y)) H
theorem zR : MtR X "str.endswith" O3 := by
 intro pins s σ H x vs v us Q I rx rv h
 obtain ⟨z, y, rfl, rfl, q⟩ := h
 obtain ⟨t, rfl⟩ := rx
 obtain ⟨u, rfl, t2, rfl⟩ := vals1 rv
 exact SC.endswith ⟨.bl _, H, I, rfl, q⟩
theorem oX : OpR X (binaryOp .Mult) (fun x y H Q => ∃ z n, x = .str z /\ y = .int n /\ MulOk z n /\ Q (.str (Txt.mul z n)) H) := by
 intro pins s σ H x y v u Q I rx ry h
 obtain ⟨z, n, rfl, rfl, hm, q⟩ := h
 obtain ⟨t, rfl⟩ := rx
 obtain ⟨t', rfl⟩ := ry
 exact SB.mul hm fun t' k => ⟨.str _, H, I.tok k, ⟨t', rfl⟩, q⟩
end
end L2
namespace Mine
open PySem PySem.Spec PyProof.Rows L2 PySem.Builtin PySem.Builtin.Str
inductive Thg where
 | num (m : Nat)
 | nms (c : Bool) (ys : List Str)
structure Trm where
 sg : Int
 th : Thg
def kindOf : Thg -> Str
 | .num _ => "number"
 | .nms c _ => if c = true then "call" else "path"
def wordOf : Thg -> Str
 | .num m => m7 m
 | .nms c ys => if c = true then dotted ys ++ brk else dotted ys
def sgw (s : Int) : Str := if s = 1 then "+" else "-"
def wordsOf : List Trm -> List Str
 | [] => []
 | t :: r => wordOf t.th :: (r.map fun t => [sgw t.sg, wordOf t.th]).flatten
def textOf (ts : List Trm) : Str := Str.join ⟨#[32]⟩ (wordsOf ts)
structure fV (ys : List Str) : Prop where
 lo : ys ≠ []
 hi : ys.length <= 4
 nm : ∀ y ∈ ys, dq y
def km : Thg -> Prop
 | .num m => m < 10 ^ 20
 | .nms _ ys => fV ys
structure m9 (t : Trm) : Prop where
 sg : t.sg = 1 \/ t.sg = -1
 th : km t.th
structure cj (ts : List Trm) : Prop where
 lo : ts ≠ []
 hi : ts.length <= 6
 ok : ∀ t ∈ ts, m9 t
 hd : ∀ t, ts.head? = some t -> t.sg = 1
theorem iT : brk.length = 2 := by decide +kernel
theorem fV.len {ys : List Str} (h : fV ys) : (dotted ys).length <= 36 := by
 have h1 := Aw ys
 have h2 : (ys.map (·.length)).sum <= ys.length * 8 := pD fun y hy => (h.nm y hy).hi
 have := h.hi
 omega
theorem ul {th : Thg} (h : km th) : (wordOf th).length <= 38 := by
 cases th with
 | num m => exact le_trans (iK h).2.1 Z0
 | nms c ys =>
  have := fV.len h
  cases c with
  | true => show (dotted ys ++ brk).length <= 38; rw [bO, iT]; omega
  | false => show (dotted ys).length <= 38; omega
theorem vh : (("+" : Str)).cps.toList = [43] := by decide +kernel
theorem rO : (("-" : Str)).cps.toList = [45] := by decide +kernel
theorem Ez (s : Int) : (sgw s).cps.toList = [43] \/ (sgw s).cps.toList = [45] := by
 unfold sgw; split
 ·exact .inl vh
 ·exact .inr rO
theorem yc (s : Int) : (sgw s).length = 1 := by
 rw [bQ]; rcases Ez s with e | e <;> rw [e] <;> rfl
theorem rN {ts : List Trm} {x : Str} (h : x ∈ wordsOf ts) : (∃ t ∈ ts, x = wordOf t.th) \/ ∃ t ∈ ts, x = sgw t.sg := by
 cases ts with
 | nil => simp [wordsOf] at h
 | cons t r =>
  rcases mem_cons.mp h with h | h
  ·exact .inl ⟨t, mem_cons_self, h⟩
  ·obtain ⟨l, hl, hx⟩ := List.mem_flatten.mp h
   obtain ⟨u, hu, rfl⟩ := mem_map.mp hl
   simp only [mem_cons, not_mem_nil, or_false] at hx
   rcases hx with hx | hx
   ·exact .inr ⟨u, mem_cons_of_mem _ hu, hx⟩
   ·exact .inl ⟨u, mem_cons_of_mem _ hu, hx⟩
theorem uz {ts : List Trm} (h : ts ≠ []) : wordsOf ts ≠ [] := by
 cases ts with
 | nil => exact absurd rfl h
 | cons t r => intro z; cases z
theorem blank_eq : ((" " : Str)) = ⟨#[32]⟩ := by decide +kernel
theorem GX (r : List Trm) : ((r.map fun t => [sgw t.sg, wordOf t.th]).flatten).length = 2 * r.length := by
 induction r with
 | nil => rfl
 | cons t r ih => rw [map_cons, flatten_cons, length_append, ih]; simp; omega
theorem cU {ts : List Trm} (h : ts ≠ []) : (wordsOf ts).length = 2 * ts.length - 1 := by
 cases ts with
 | nil => exact absurd rfl h
 | cons t r => show (_ :: _).length = _; rw [length_cons, GX, length_cons]; omega
theorem Dg : ∀ (r : List Trm) (i : Nat) (t : Trm), r[i]? = some t ->
  ((r.map fun t => [sgw t.sg, wordOf t.th]).flatten)[2 * i]? = some (sgw t.sg) /\ ((r.map fun t => [sgw t.sg, wordOf t.th]).flatten)[2 * i + 1]? = some (wordOf t.th)
 | [], i, t, h => by simp at h
 | u :: r, 0, t, h => by
  have : u = t := by simpa using h
  subst this
  exact ⟨rfl, rfl⟩
 | u :: r, i + 1, t, h => by
  have ih := Dg r i t (by simpa using h)
  rw [map_cons, flatten_cons, show 2 * (i + 1) = 2 * i + 1 + 1 from by omega]
  exact ih
theorem pX {ts : List Trm} {i : Nat} {t : Trm} (h : ts[i + 1]? = some t) : (wordsOf ts)[2 * i + 1]? = some (sgw t.sg) /\ (wordsOf ts)[2 * i + 2]? = some (wordOf t.th) := by
 cases ts with
 | nil => simp at h
 | cons u r => exact Dg r i t (by simpa using h)
theorem my {ts : List Trm} (t : Trm) (h : ts ≠ []) : wordsOf (ts ++ [t]) = wordsOf ts ++ [sgw t.sg, wordOf t.th] := by
 cases ts with
 | nil => exact absurd rfl h
 | cons u r =>
  show wordOf u.th :: ((r ++ [t]).map fun t => [sgw t.sg, wordOf t.th]).flatten = wordOf u.th :: (r.map fun t => [sgw t.sg, wordOf t.th]).flatten ++ [sgw t.sg, wordOf t.th]
  rw [map_append, List.flatten_append]
  simp
def gap (s : Int) : Str := if s = 1 then " + " else " - "
theorem wy (s : Int) : (gap s).cps.toList = 32 :: ((sgw s).cps.toList ++ [32]) := by
 unfold gap sgw
 split
 ·rw [vh]; decide +kernel
 ·rw [rO]; decide +kernel
theorem JT (s : Int) : (gap s).length = 3 := by
 rw [bQ, wy, length_cons, length_append, <- bQ, yc]; rfl
theorem zE {ts : List Trm} (t : Trm) (h : ts ≠ []) : textOf (ts ++ [t]) = textOf ts ++ gap t.sg ++ wordOf t.th := by
 unfold textOf
 rw [my t h, show wordsOf ts ++ [sgw t.sg, wordOf t.th] = (wordsOf ts ++ [sgw t.sg]) ++ [wordOf t.th] from by simp, join_snoc _ _ _ Z2, join_snoc _ _ _ (uz h)]
 apply dR
 simp only [dO, wy, append_assoc]
 simp
theorem t6 {ts : List Trm} (h : ∀ t ∈ ts, m9 t) : (textOf ts).length <= 80 * ts.length := by
 unfold textOf
 have h1 := StrLaws.join_length_le ⟨#[32]⟩ (wordsOf ts)
 have e : (⟨#[32]⟩ : Str).length = 1 := rfl
 rw [e] at h1
 have h2 : ((wordsOf ts).map (·.length)).sum <= (wordsOf ts).length * 38 := pD fun y hy => by
  rcases rN hy with ⟨t, ht, rfl⟩ | ⟨t, ht, rfl⟩
  ·exact ul (h t ht).th
  ·rw [yc]; decide
 cases ts with
 | nil => exact le_of_eq rfl
 | cons t r =>
  have := cU (ts := t :: r) Z2
  omega
theorem CQ (k : Bool) : Txt.mul brk (if k = true then 1 else 0) = if k = true then brk else Str.empty := by cases k <;> rfl
theorem DK (a : Str) : a ++ Str.empty = a := by apply dR; rw [dO]; simp [Str.empty]
end Mine
namespace L2
open PySem PySem.Spec PyProof.Rows
theorem nR {lo : Int} {n : Nat} {te : TE} {τ0 : St} {H : Hp} {Fin : List V -> Hp -> Prop} (R : Nat -> V -> Hp -> Prop) (hm : ∀ i v H' H'', R i v H' -> aB H' H'' -> R i v H'') (hn : n <= sizeLine)
  (hte : ∀ (i : Nat) H' (Q : VK), i < n -> aB H H' -> (∀ v H'', aB H' H'' -> R i v H'' -> Q v H'') -> te (τ0.set 0 (some (.int (lo + i)))) H' Q)
  (hfin : ∀ ys H', aB H H' -> ys.length = n -> (∀ (i : Nat) v, ys[i]? = some v -> R i v H') -> Fin ys H') : nT (dI 0) oY te (Itr lo n) τ0 H Fin := by
 refine ⟨fun i m τ ys H' => m = n - i /\ i <= n /\ ys.length = i /\ (∀ (j : Nat) v, ys[j]? = some v -> R j v H') /\ aB H H' /\ ∃ v, τ = τ0.set 0 v \/ τ = τ0, ⟨n, rfl, zero_le _, rfl, fun j v h => by simp at h, aB.refl _, none, .inr rfl⟩, ?_⟩
 rintro i m τ ys H' ⟨rfl, hi, hl, hr, sm, v, hτ⟩
 by_cases hlt : i < n
 ·refine .inr ⟨hlt, fun x H'' y => ?_⟩
  obtain ⟨e, y⟩ := y
  subst e y
  have e2 : τ.set 0 (some (V.int (lo + i))) = τ0.set 0 (some (V.int (lo + i))) := by
   rcases hτ with rfl | rfl
   ·rw [set_set]
   ·rfl
  unfold dI oY
  rw [e2]
  dsimp only
  rw [if_pos rfl]
  refine hte i H'' _ hlt sm fun v H4 s4 hv => ?_
  refine ⟨Z1, n - (i + 1), Z1, rfl, hlt, by rw [length_append, hl]; rfl, fun j u hj => ?_, sm.trans s4, _, .inl rfl⟩
  by_cases hji : j < ys.length
  ·rw [getElem?_append_left hji] at hj
   exact hm _ _ _ _ (hr j u hj) s4
  ·rw [getElem?_append_right Z1] at hj
   have hj0 : j - ys.length = 0 := by
    cases hh : j - ys.length with
    | zero => rfl
    | succ k => rw [hh] at hj; simp at hj
   rw [hj0] at hj
   have : j = i := by omega
   subst this
   have : v = u := by simpa using hj
   subst this
   exact hv
 ·have e : i = n := by omega
  subst e
  exact .inl ⟨le_refl _, hfin ys H' sm hl hr⟩
theorem uw {K : Frag} {a : Addr} {xs : List V} {te : TE} {τ0 : St} {H : Hp} {Fin : List V -> Hp -> Prop} (f : Nat -> V) (hn : xs.length <= sizeLine) (hl : SqL K H a xs)
  (hte : ∀ (i : Nat) x H' (Q : VK), xs[i]? = some x -> aB H H' -> (∀ H'', aB H' H'' -> Q (f i) H'') -> te (τ0.set 0 (some x)) H' Q)
  (hfin : ∀ H', aB H H' -> Fin ((List.range xs.length).map f) H') : nT (dI 0) oY te (Itl K a) τ0 H Fin := by
 refine ⟨fun i m τ ys H' => m = xs.length - i /\ i <= xs.length /\ ys = (List.range i).map f /\ aB H H' /\ ∃ v, τ = τ0.set 0 v \/ τ = τ0, ⟨xs.length, rfl, zero_le _, rfl, aB.refl _, none, .inr rfl⟩, ?_⟩
 rintro i m τ ys H' ⟨rfl, hi, rfl, sm, v, hτ⟩
 by_cases hlt : i < xs.length
 ·refine .inr ⟨⟨xs, xs[i], sm.seq hl, by simp [hlt]⟩, fun x H'' y => ?_⟩
  obtain ⟨e, y⟩ := y
  subst e
  have hx := y xs (sm.seq hl)
  have e2 : τ.set 0 (some x) = τ0.set 0 (some x) := by
   rcases hτ with rfl | rfl
   ·rw [set_set]
   ·rfl
  unfold dI oY
  rw [e2]
  dsimp only
  rw [if_pos rfl]
  refine hte i x H'' _ hx sm fun H4 s4 => ?_
  exact ⟨by rw [length_map, length_range]; omega, xs.length - (i + 1), Z1, rfl, hlt, by rw [range_succ, map_append]; rfl, sm.trans s4, _, .inl rfl⟩
 ·have e : i = xs.length := by omega
  subst e
  exact .inl ⟨⟨xs, sm.seq hl, le_refl _⟩, hfin H' sm⟩
end L2
namespace Mine
open PySem PySem.Spec PyProof.Rows L2 PySem.Builtin PySem.Builtin.Str
def oW (H : Hp) (x : V) : Thg -> Prop
 | .num m => x = .int ((m : Nat) : Int)
 | .nms _ ys => ∃ q, x = .ref q /\ H q = some (.tup (ys.map V.str))
def eY (H : Hp) (v : V) (t : Trm) : Prop := ∃ p x, v = .ref p /\ H p = some (.tup [.int t.sg, .str (kindOf t.th), x]) /\ oW H x t.th
def eU (H : Hp) (l : Addr) (ts : List Trm) : Prop := ∃ xs, H l = some (.lst xs) /\ xs.length = ts.length /\ ∀ (i : Nat) x, xs[i]? = some x -> ∃ t, ts[i]? = some t /\ eY H x t
theorem oW.same {H H' : Hp} {x : V} {th : Thg} (h : oW H x th) (s : aB H H') : oW H' x th := by
 cases th with
 | num m => exact h
 | nms c ys => obtain ⟨q, e, hq⟩ := h; exact ⟨q, e, s _ _ hq⟩
theorem eY.same {H H' : Hp} {v : V} {t : Trm} (h : eY H v t) (s : aB H H') : eY H' v t := by
 obtain ⟨p, x, e, hp, hx⟩ := h
 exact ⟨p, x, e, s _ _ hp, hx.same s⟩
theorem eU.same {H H' : Hp} {l : Addr} {ts : List Trm} (h : eU H l ts) (s : aB H H') : eU H' l ts := by
 obtain ⟨xs, hl, hn, hx⟩ := h
 refine ⟨xs, s _ _ hl, hn, fun i x e => ?_⟩
 obtain ⟨t, ht, tm⟩ := hx i x e
 exact ⟨t, ht, tm.same s⟩
theorem eY.upd {H : Hp} {v : V} {t : Trm} {l : Addr} {ys : List V} {o : HO} (h : eY H v t) (hl : H l = some (.lst ys)) : eY (upd H l o) v t := by
 obtain ⟨p, x, e, hp, hx⟩ := h
 refine ⟨p, x, e, by rw [aR (uo hp hl Z7)]; exact hp, ?_⟩
 cases hth : t.th with
 | num m => rw [hth] at hx; exact hx
 | nms c zs =>
  rw [hth] at hx
  obtain ⟨q, e, hq⟩ := hx
  exact ⟨q, e, by rw [aR (uo hq hl Z7)]; exact hq⟩
theorem oW.deq {K : Frag} {H : Hp} {x y : V} {th : Thg} (h1 : oW H x th) (h2 : oW H y th) : DEq K H 1 x y := by
 cases th with
 | num m => cases h1; cases h2; exact .int _
 | nms c ys =>
  obtain ⟨q, rfl, hq⟩ := h1
  obtain ⟨r, rfl, hr⟩ := h2
  refine .tup (SqT.of hq) (SqT.of hr) rfl fun i a b ha hb => ?_
  rw [ha] at hb; cases hb
  rw [getElem?_map] at ha
  cases hy : ys[i]? with
  | none => rw [hy] at ha; cases ha
  | some z => rw [hy] at ha; cases ha; exact .str z
theorem eY.items {K : Frag} {H : Hp} {t : Trm} {x y : V} (h1 : oW H x t.th) (h2 : oW H y t.th) :
  ∀ (i : Nat) a b, ([.int t.sg, .str (kindOf t.th), x] : List V)[i]? = some a -> ([.int t.sg, .str (kindOf t.th), y] : List V)[i]? = some b -> DEq K H 1 a b
 | 0, a, b, ha, hb => by cases ha; cases hb; exact .int _
 | 1, a, b, ha, hb => by cases ha; cases hb; exact .str _
 | 2, a, b, ha, hb => by cases ha; cases hb; exact h1.deq h2
 | i + 3, a, b, ha, hb => by simp at ha
theorem eY.dsq {K : Frag} {H : Hp} {t : Trm} {p q : Addr} {x y : V} (hp : H p = some (.tup [.int t.sg, .str (kindOf t.th), x])) (hq : H q = some (.tup [.int t.sg, .str (kindOf t.th), y])) (h1 : oW H x t.th) (h2 : oW H y t.th) : DSq K H p q :=
 ⟨1, [.int t.sg, .str (kindOf t.th), x], [.int t.sg, .str (kindOf t.th), y], Z0, rfl, .inl ⟨SqT.of hp, SqT.of hq⟩, eY.items h1 h2⟩
theorem nJ {α β : Type} (P : Nat -> α -> β -> Prop) : ∀ (ys : List α) (k : Nat), (∀ (i : Nat) v, ys[i]? = some v -> ∃ t, P (k + i) v t) -> ∃ ts : List β, ts.length = ys.length /\ ∀ (i : Nat) v, ys[i]? = some v -> ∃ t, ts[i]? = some t /\ P (k + i) v t
 | [], k, _ => ⟨[], rfl, fun i v h => by simp at h⟩
 | y :: ys, k, h => by
  obtain ⟨t0, h0⟩ := h 0 y rfl
  obtain ⟨ts, hl, ht⟩ := nJ P ys (k + 1) fun i v e => by
   have := h (i + 1) v (by simpa using e)
   rwa [show k + (i + 1) = k + 1 + i from by omega] at this
  refine ⟨t0 :: ts, by simp [hl], fun i v e => ?_⟩
  cases i with
  | zero => cases e; exact ⟨t0, rfl, h0⟩
  | succ i =>
   obtain ⟨t, e2, p⟩ := ht i v (by simpa using e)
   refine ⟨t, by simpa using e2, ?_⟩
   rwa [show k + (i + 1) = k + 1 + i from by omega]
theorem Fw (xs : List V) : jj xs (some 1) none = xs.drop 1 := by
 unfold jj
 have e : HT.sIx xs.length 0 (some 1) = min 1 xs.length := HT.sIx_nat xs.length 0 1
 rw [e, HT.sIx_none]
 cases xs with
 | nil => rfl
 | cons a r =>
  rw [show min 1 (a :: r).length = 1 from by simp]
  exact take_of_length_le Z2
theorem log2_small {m : Nat} (h : m < 10 ^ 20) : m.log2 < 1920 := by
 by_cases h0 : m = 0
 ·subst h0; decide
 ·exact Nat.lt_trans ((Nat.log2_lt h0).mpr (Nat.lt_trans h (by decide : 10 ^ 20 < 2 ^ 70))) Z0
theorem Ay (k : Bool) : MulOk brk (if k = true then 1 else 0) := by
 cases k
 ·exact ⟨Z0, fun z => absurd Z0 z, fun z => absurd Z0 z⟩
 ·exact ⟨Z0, fun _ z => (by cases z), fun _ z => (by cases z)⟩
end Mine
namespace L2
open PySem PySem.Spec PyProof.Rows PySem.W
section
variable {X : Cx} {x : Str} {pos : Pos}
theorem BL {y : Addr} (h : X.mg x = some (.ref y)) (hg : Gl X x := by rfl) (hd : (x == ("__debug__" : Str)) = false := by decide) : PE X (.Name x pos) (tC (.ref y)) := tQ hg h rfl hd
def Mv (K : Frag) : List V -> Hp -> VK -> Prop := fun xs H Q => ∃ x t c b, xs = [x, .ref c] /\ nP K H x t /\ kitOne K t (.ref c) = some b /\ Q (.bl b) H
theorem eE : fY X (.builtin "isinstance") (Mv X.K) := by
 intro pins s σ H xs us Q I r h
 obtain ⟨x, t, c, b, rfl, ty, e, q⟩ := h
 obtain ⟨u, u2, rfl, rx, ry⟩ := vals2 r
 cases (show u2 = Value.ref c from ry)
 exact wR I rx ty e fun tk => ⟨.bl b, H, I.tok tk, rfl, q⟩
end
structure RCl (K : Frag) (C : Addr) : Prop where
 cl : Cls K C
 ha : findIn K (.ref C) "__class__" = some (some (.builtin "object.__class__"))
 hn : specialIn K (.builtin "object.__class__") "__get__" = some (some (.builtin "getset_descriptor.__get__"))
 htk : takesIn K (.builtin "object.__class__") = some true
 hm : mroIn K C (.type "object") = some true
theorem RCl.ty {K : Frag} {C a dx : Addr} {H : Hp} {fs : List (Str × V)} (c : RCl K C) (e : H a = some (.ins C dx fs)) : nP K H (.ref a) (.ref C) := .ins e c.cl c.ha c.hn c.htk c.hm
structure MkN (K : Frag) (C : Addr) : Prop where
 makes : makesIn K C = true
 init : findIn K (.ref C) "__init__" = some (some (.builtin "object.__init__"))
 kp : keepIn K (.ref C) = true
section
variable {X : Cx} {C : Addr} {x : Str} {p pos : Pos}
end
section
variable {X : Cx} {C f : Addr} {k : Nat} {fd : FuncData} {ps : List Str} {sp : Sp} {x : Str} {p pos : Pos} {e : Expr} {es : List Expr} {t : TA}
theorem v7 (M : Mk X.K C f) (b : Binds X.K fd ps []) (G : aO X.prog X.w X.K X.mg X.base CX0 k f fd ps sp) (hr : bh (k + 1) X.A) (hm : X.mg x = some (.ref C)) (ha : PA X (e :: es) t) (hg : Gl X x := by rfl)
  (hdb : (x == ("__debug__" : Str)) = false := by decide) (he : starEach (e :: es) X.env = (false, eval e X.env) :: starEach es X.env := by rfl) (hpl : (backTo pos (starEach es X.env)).any (·.1) = false := by rfl) :
  PE X (.Call (.Name x p) (e :: es) [] pos) (Kg C sp [] E0 t) := Jd M G hr hg hm b .nil Dc ha hdb he hpl
end
def VM (P : Program) (w : World) (K : Frag) (mg : MG) (base : Heap) (k : Nat) (C : Addr) (m : Str) (sp : Sp) : Prop := ∃ f fd ps, Meth K C m f /\ aO P w K mg base CX0 k f fd ps sp /\ Binds K fd ps []
def MV (P : Program) (w : World) (K : Frag) (mg : MG) (base : Heap) (k : Nat) (m : Str) (x : V) (H : Hp) (Q : VK) : Prop :=
 ∃ a C dx fs sp, x = .ref a /\ H a = some (.ins C dx fs) /\ fs.lookup m = none /\ Cls K C /\ VM P w K mg base k C m sp /\ sp [x] H Q E0
def MN (P : Program) (w : World) (K : Frag) (mg : MG) (base : Heap) (k : Nat) (m : Str) (ta : TE) : TE := fun σ H Q => ta σ H fun x H1 => MV P w K mg base k m x H1 Q
section
variable {X : Cx} {P : Program} {w : World} {K : Frag} {mg : MG} {base : Heap} {k : Nat} {m : Str} {o : Expr} {ta : TE} {pos apos : Pos}
theorem qF {pl : Sem Bool} (h1 : X.prog = P) (h2 : X.w = w) (h3 : X.K = K) (h4 : X.mg = mg) (h5 : X.base = base) (hr : bh k X.A) (he : PE X o ta)
  (ht : eval (.Call (.Attribute o m apos) [] [] pos) X.env = (do
   let ov <- eval o X.env
   standAt apos.atName
   let (f, first) <- holding [ov] (getMethod ov m pl)
   callWith pos f first (backTo pos (starEach [] X.env)) (backToKw pos (keywordEach [] X.env))) := by rfl) :
  PE X (.Call (.Attribute o m apos) [] [] pos) (MN P w K mg base k m ta) := by
 subst h1 h2 h3 h4 h5
 intro pins s σ H Q I h
 refine PySem.W.methodCall_KW (pl := pl) (thn (he pins s σ H _ I h) fun u s1 hz => ?_) ht
 obtain ⟨x, H1, I1, rx, a, C, dx, fs, sp, ex, ea, l, c, ⟨f, fd, ps, hm, F, hb⟩, q⟩ := hz
 subst ex
 obtain rfl : u = Value.ref a := rx
 refine Bx I1 ea c hm l ?_
 exact PySem.W.callWith_K0 (first := [.ref a]) I1.kIn hm.kp (Hi (us := [.ref a]) (vs := [.ref a]) (dvs := []) (ds := []) F hr hb .nil Dc I1 (.cons rfl .nil) q)
end
section
variable {X : Cx} {o value : Expr} {f : Str} {pos pos' : Pos} {ta tv : TE}
theorem ig (ha : PE X o ta) (hv : PE X value tv) (hs : swapsWith value (some (.Attribute o f pos')) pos.line X.env = pure false := by rfl) : QS X (.Assign [.Attribute o f pos'] value pos) (Qq X.K ta tv f) := ⟨KZ ha hv hs⟩
end
structure MAt (K : Frag) (m q : Str) (st : Stmt) (ps : List Str) (f : Addr) (fd : FuncData) : Prop where
 F : Fun K m q st f fd
 b : Binds K fd ps []
theorem rdF {K : Frag} {H : Hp} {a C dx : Addr} {fs : List (Str × V)} {v : V} {f : Str} {q : V -> Prop} (ha : H a = some (.ins C dx fs)) (c : Cls K C) (n : dB K C f) (l : fs.lookup f = some v) (h : q v) :
  ∃ a' C' dx' fs' v', V.ref a = .ref a' /\ H a' = some (.ins C' dx' fs') /\ Cls K C' /\ dB K C' f /\ fs'.lookup f = some v' /\ q v' := ⟨a, C, dx, fs, v, rfl, ha, c, n, l, h⟩
theorem rm {p : Nat -> Prop} (h0 : p 0) (h1 : p 1) (h2 : p 2) (h3 : p 3) (h4 : p 4) (h5 : p 5) (h6 : p 6) (i : Nat) (h : i <= 6) : p i := by
 cases i with
 | zero => exact h0
 | succ i => cases i with
  | zero => exact h1
  | succ i => cases i with
   | zero => exact h2
   | succ i => cases i with
    | zero => exact h3
    | succ i => cases i with
     | zero => exact h4
     | succ i => cases i with
      | zero => exact h5
      | succ i => cases i with
       | zero => exact h6
       | succ i => exact absurd h Z1
theorem qg {H : Hp} {p b : Addr} {o : HO} (h : upd H p o b = none) : H b = none /\ b ≠ p := by
 unfold upd at h
 split at h
 ·cases h
 ·exact ⟨h, ‹_›⟩
theorem lkP {f : Str} {y : V} {fs : List (Str × V)} : (lG f y fs).lookup f = some y := by rw [jr, if_pos rfl]
theorem lkN {f g : Str} {y : V} {fs : List (Str × V)} (h : ¬ g = f) : (lG f y fs).lookup g = fs.lookup g := by rw [jr, if_neg h]
theorem Bk {f : Str} {y : V} {fs : List (Str × V)} {n : Nat} (h : fs.length < n) : (lG f y fs).length < n + 1 := by have := nH f y fs; omega
theorem aB.seqT {K : Frag} {H H' : Hp} {a : Addr} {xs : List V} (e : aB H H') (h : SqT K H a xs) : SqT K H' a xs := by
 rcases h with (h | ⟨o, h⟩) | h
 ·exact .inl (.inl (e _ _ h))
 ·exact .inl (.inr ⟨o, e _ _ h⟩)
 ·exact .inr h
def SameBut (x : Addr) (H H' : Hp) : Prop := ∀ b o, H b = some o -> b ≠ x -> H' b = some o
theorem sb3 {H : Hp} {x l : Addr} {o1 o2 o3 : HO} (hl : H l = none) : SameBut x H (upd (upd (upd H x o1) l o2) x o3) := fun b o e hb => by
 rw [aR hb, aR (aQ e hl), aR hb]; exact e
theorem sb2 {H : Hp} {x l : Addr} {o1 o2 : HO} (hl : H l = none) : SameBut x H (upd (upd H l o1) x o2) := fun b o e hb => by
 rw [aR hb, aR (aQ e hl)]; exact e
theorem aW {K : Frag} {C D : Addr} {b : Bool} (m : mroIn K C (.ref D) = some b) (sD : mroIn K D (.ref D) = some true) (o : mroIn K D (.type "object") = some true) (ty : typeIn K (.ref D) = some (.type "type")) : kitOne K (.ref C) (.ref D) = some b := by
 unfold kitOne
 by_cases e : (Value.ref C == Value.ref D) = true
 ·rw [if_pos e]
  have e' : C = D := by cases eq_of_beq e; rfl
  subst e'
  rw [m] at sD; exact sD.symm
 ·rw [if_neg e]
  cases h : clsIn K D with
  | none => unfold mroIn at o; rw [h] at o; cases o
  | some cd =>
   show (if ((clsIn K D).isSome && typeIn K (.ref D) == some (.type "type")) = true then mroIn K C (.ref D) else none) = _
   rw [h, ty, if_pos Z2, m]
theorem Bh {K : Frag} {a : Addr} {xs : List V} {g : TG} {te : TE} {τ0 : St} {H : Hp} {Fin : List V -> Hp -> Prop} (S : St -> Prop) (R : Nat -> V -> Hp -> Prop) (hm : ∀ i v H' H'', R i v H' -> aB H' H'' -> R i v H'') (hn : xs.length <= sizeLine) (hl : SqL K H a xs) (h0 : S τ0)
  (hte : ∀ (i : Nat) x τ H' (Q : St -> V -> Hp -> Prop), xs[i]? = some x -> aB H H' -> S τ -> (∀ τ2 v H'', S τ2 -> aB H' H'' -> R i v H'' -> Q τ2 v H'') -> g x τ H' fun τ2 H2 => te τ2 H2 fun y H4 => Q τ2 y H4)
  (hfin : ∀ ys H', aB H H' -> ys.length = xs.length -> (∀ (i : Nat) v, ys[i]? = some v -> R i v H') -> Fin ys H') : nT g oY te (Itl K a) τ0 H Fin := by
 refine ⟨fun i m τ ys H' => m = xs.length - i /\ i <= xs.length /\ ys.length = i /\ (∀ (j : Nat) v, ys[j]? = some v -> R j v H') /\ aB H H' /\ S τ, ⟨xs.length, rfl, zero_le _, rfl, fun j v h => by simp at h, aB.refl _, h0⟩, ?_⟩
 rintro i m τ ys H' ⟨rfl, hi, hyl, hr, sm, hS⟩
 by_cases hlt : i < xs.length
 ·refine .inr ⟨⟨xs, xs[i], sm.seq hl, by simp [hlt]⟩, fun x H'' y => ?_⟩
  obtain ⟨e, y⟩ := y
  subst e
  have hx := y xs (sm.seq hl)
  have key := hte i x τ H'' (fun τ2 y H4 => ys.length < sizeLine /\ ∃ m', m' < xs.length - i /\ (m' = xs.length - (i + 1) /\ i + 1 <= xs.length /\ (ys ++ [y]).length = i + 1 /\ (∀ (j : Nat) v, (ys ++ [y])[j]? = some v -> R j v H4) /\ aB H H4 /\ S τ2)) hx sm hS fun τ2 v H4 s2 s4 hv => by
   refine ⟨Z1, xs.length - (i + 1), Z1, rfl, hlt, by rw [length_append, hyl]; rfl, fun j u hj => ?_, sm.trans s4, s2⟩
   by_cases hji : j < ys.length
   ·rw [getElem?_append_left hji] at hj
    exact hm _ _ _ _ (hr j u hj) s4
   ·rw [getElem?_append_right Z1] at hj
    have hj0 : j - ys.length = 0 := by
     cases hh : j - ys.length with
     | zero => rfl
     | succ k => rw [hh] at hj; simp at hj
    rw [hj0] at hj
    have : j = i := by omega
    subst this
    have : v = u := by simpa using hj
    subst this
    exact hv
  exact key
 ·have e : i = xs.length := by omega
  subst e
  exact .inl ⟨⟨xs, sm.seq hl, le_refl _⟩, hfin ys H' sm hyl hr⟩
theorem Ec {K : Frag} {a : Addr} {xs : List V} {te : TE} {τ0 : St} {H : Hp} {Fin : List V -> Hp -> Prop} (f : Nat -> V) (hn : xs.length <= sizeLine) (hl : SqT K H a xs)
  (hte : ∀ (i : Nat) x H' (Q : VK), xs[i]? = some x -> aB H H' -> (∀ H'', aB H' H'' -> Q (f i) H'') -> te (τ0.set 0 (some x)) H' Q)
  (hfin : ∀ H', aB H H' -> Fin ((List.range xs.length).map f) H') : nT (dI 0) oY te (Itt K a) τ0 H Fin := by
 refine ⟨fun i m τ ys H' => m = xs.length - i /\ i <= xs.length /\ ys = (List.range i).map f /\ aB H H' /\ ∃ v, τ = τ0.set 0 v \/ τ = τ0, ⟨xs.length, rfl, zero_le _, rfl, aB.refl _, none, .inr rfl⟩, ?_⟩
 rintro i m τ ys H' ⟨rfl, hi, rfl, sm, v, hτ⟩
 by_cases hlt : i < xs.length
 ·refine .inr ⟨⟨xs, xs[i], sm.seqT hl, by simp [hlt]⟩, fun x H'' y => ?_⟩
  obtain ⟨e, y⟩ := y
  subst e
  have hx := y xs (sm.seqT hl)
  have e2 : τ.set 0 (some x) = τ0.set 0 (some x) := by
   rcases hτ with rfl | rfl
   ·rw [set_set]
   ·rfl
  unfold dI oY
  rw [e2]
  dsimp only
  rw [if_pos rfl]
  refine hte i x H'' _ hx sm fun H4 s4 => ?_
  exact ⟨by rw [length_map, length_range]; omega, xs.length - (i + 1), Z1, rfl, hlt, by rw [range_succ, map_append]; rfl, sm.trans s4, _, .inl rfl⟩
 ·have e : i = xs.length := by omega
  subst e
  exact .inl ⟨⟨xs, sm.seqT hl, le_refl _⟩, hfin H' sm⟩
theorem len0 {α : Type} {us : List α} (h : us.length = 0) : us = [] := List.length_eq_zero_iff.mp h
theorem Dp {α : Type} {us : List α} {n : Nat} (h : us.length = n + 1) : ∃ a r, us = a :: r /\ r.length = n := by
 cases us with
 | nil => cases h
 | cons a r => exact ⟨a, r, rfl, Nat.succ.inj h⟩
theorem M9 {α : Type} {us : List α} (h : us.length = 1) : ∃ a, us = [a] := by
 obtain ⟨a, r, rfl, k⟩ := Dp h
 exact ⟨a, by rw [len0 k]⟩
theorem TF {α : Type} {us : List α} (h : us.length = 2) : ∃ a b, us = [a, b] := by
 obtain ⟨a, r, rfl, k⟩ := Dp h
 obtain ⟨b, rfl⟩ := M9 k
 exact ⟨a, b, rfl⟩
theorem RK {α : Type} {us : List α} (h : us.length = 3) : ∃ a b c, us = [a, b, c] := by
 obtain ⟨a, r, rfl, k⟩ := Dp h
 obtain ⟨b, c, rfl⟩ := TF k
 exact ⟨a, b, c, rfl⟩
theorem Yo {α : Type} {us : List α} (h : us.length = 4) : ∃ a b c d, us = [a, b, c, d] := by
 obtain ⟨a, r, rfl, k⟩ := Dp h
 obtain ⟨b, c, d, rfl⟩ := RK k
 exact ⟨a, b, c, d, rfl⟩
theorem JX (xs : List V) (lo hi : Option Int) : (jj xs lo hi).length <= xs.length := by
 unfold jj
 rw [length_take, length_drop]
 omega
theorem Dy {K : Frag} {H : Hp} {a b : Addr} {bs : List Bool} (ha : H a = some (.lst (bs.map V.bl))) (hb : H b = some (.lst (bs.map V.bl))) : DSq K H a b :=
 ⟨0, _, _, Z0, rfl, .inr ⟨SqL.of ha, SqL.of hb⟩, fun i x y ex ey => by
  rw [ex] at ey; cases ey
  rw [getElem?_map] at ex
  cases e : bs[i]? with
  | none => rw [e] at ex; cases ex
  | some z => rw [e] at ex; cases ex; exact .bl _⟩
theorem Aa {K : Frag} {H : Hp} {a b : Addr} {bs : List Str} (ha : H a = some (.lst (bs.map V.str))) (hb : H b = some (.lst (bs.map V.str))) : DSq K H a b :=
 ⟨0, _, _, Z0, rfl, .inr ⟨SqL.of ha, SqL.of hb⟩, fun i x y ex ey => by
  rw [ex] at ey; cases ey
  rw [getElem?_map] at ex
  cases e : bs[i]? with
  | none => rw [e] at ex; cases ex
  | some z => rw [e] at ex; cases ex; exact .str _⟩
end L2
namespace Mine
open PySem PySem.Spec PyProof.Rows L2 PySem.Builtin PySem.Builtin.Str
structure cL where
 so : Nat
 nm : Str
 ad : Str
 wd : Str
 ts : List Trm
def bT : Nat -> Str
 | 0 => "let"
 | 1 => "deed"
 | 2 => "draw"
 | 3 => "late"
 | 4 => "take"
 | _ => "need"
structure oM (ys : List Str) : Prop where
 lo : ys ≠ []
 hi : ys.length <= 3
 nm : ∀ y ∈ ys, dq y
structure GoodR (r : cL) : Prop where
 so : r.so <= 5
 nm : r.so < 5 -> dq r.nm
 no : r.so = 5 -> r.nm = ""
 ad : ∃ ys, oM ys /\ r.ad = dotted ys
 wd : dq r.wd
 ts : cj r.ts
 dd : r.so = 1 -> ∀ t ∈ r.ts, ∀ ys, t.th ≠ .nms true ys
theorem oM.len {ys : List Str} (h : oM ys) : (dotted ys).length <= 36 := fV.len ⟨h.lo, le_trans h.hi Z0, h.nm⟩
theorem GoodR.nl {r : cL} (h : GoodR r) : r.nm.length <= 8 := by
 rcases Nat.lt_or_ge r.so 5 with k | k
 ·exact (h.nm k).hi
 ·rw [h.no (by have := h.so; omega)]; decide
theorem GoodR.al {r : cL} (h : GoodR r) : r.ad.length <= 36 := by
 obtain ⟨ys, g, e⟩ := h.ad
 rw [e]; exact g.len
theorem GoodR.tl {r : cL} (h : GoodR r) : (textOf r.ts).length <= 480 := by
 have := t6 (ts := r.ts) fun t ht => h.ts.ok t ht
 have := h.ts.hi
 omega
def cG (r : cL) : Str := match r.so with
 | 0 => "let " ++ r.nm ++ " be " ++ textOf r.ts
 | 1 => "deed " ++ r.nm ++ " be " ++ textOf r.ts
 | 2 => "draw " ++ r.ad ++ " as " ++ r.nm
 | 3 => "late " ++ r.ad ++ " as " ++ r.nm
 | 4 => "take " ++ r.wd ++ " from " ++ r.ad ++ " as " ++ r.nm
 | _ => "need " ++ textOf r.ts
def iw (r : cL) : List Str := if r.so = 2 \/ r.so = 3 \/ r.so = 4 then [r.ad] else []
theorem tR : (("let " : Str)).length = 4 := by decide +kernel
theorem qw : (("deed " : Str)).length = 5 := by decide +kernel
theorem p7 : (("draw " : Str)).length = 5 := by decide +kernel
theorem pZ : (("late " : Str)).length = 5 := by decide +kernel
theorem dD : (("take " : Str)).length = 5 := by decide +kernel
theorem u5 : (("need " : Str)).length = 5 := by decide +kernel
theorem jU : ((" be " : Str)).length = 4 := by decide +kernel
theorem eO : ((" as " : Str)).length = 4 := by decide +kernel
theorem len_from : ((" from " : Str)).length = 6 := by decide +kernel
theorem abS {a b : Str} {m n : Nat} (ha : a.length <= m) (hb : b.length <= n) (h : m + n <= 1000 := by decide) : a.length + b.length <= sizeLine := le_trans (Nat.add_le_add ha hb) (le_trans h Gb)
theorem alS {a b : Str} {m n : Nat} (ha : a.length <= m) (hb : b.length <= n) : (a ++ b).length <= m + n := by rw [bO]; exact Nat.add_le_add ha hb
def Ar (H : Hp) (v : V) (lt : Addr) (r : cL) : Prop := ∃ p, v = .ref p /\ H p = some (.tup [.str (bT r.so), .str r.nm, .str r.ad, .str r.wd, .ref lt]) /\ eU H lt r.ts
structure JD (H : Hp) (fs : List (Str × V)) (l : Addr) (r : cL) : Prop where
 nm : r.so < 5 -> fs.lookup ("name" : Str) = some (.str r.nm)
 tm : r.so = 0 \/ r.so = 1 \/ r.so = 5 -> fs.lookup ("terms" : Str) = some (.ref l) /\ eU H l r.ts
 ad : r.so = 2 \/ r.so = 3 \/ r.so = 4 -> fs.lookup ("address" : Str) = some (.str r.ad)
 wd : r.so = 4 -> fs.lookup ("word" : Str) = some (.str r.wd)
 nb : fs.lookup ("binds" : Str) = none
 na : fs.lookup ("asked" : Str) = none
 ns : fs.lookup ("said" : Str) = none
def gY (C : Nat -> Addr) (H : Hp) (a l : Addr) (r : cL) : Prop := ∃ dx fs, H a = some (.ins (C r.so) dx fs) /\ JD H fs l r
theorem JD.same {H H' : Hp} {fs : List (Str × V)} {l : Addr} {r : cL} (h : JD H fs l r) (s : aB H H') : JD H' fs l r :=
 ⟨h.nm, fun k => ⟨(h.tm k).1, (h.tm k).2.same s⟩, h.ad, h.wd, h.nb, h.na, h.ns⟩
theorem gY.same {C : Nat -> Addr} {H H' : Hp} {a l : Addr} {r : cL} (h : gY C H a l r) (s : aB H H') : gY C H' a l r := by
 obtain ⟨dx, fs, e, f⟩ := h
 exact ⟨dx, fs, s _ _ e, f.same s⟩
theorem eY.but {H H' : Hp} {v : V} {t : Trm} {x C dx : Addr} {fs : List (Str × V)} (h : eY H v t) (hx : H x = some (.ins C dx fs)) (s : SameBut x H H') : eY H' v t := by
 obtain ⟨p, y, e, hp, hy⟩ := h
 refine ⟨p, y, e, s _ _ hp (uo hp hx Z7), ?_⟩
 cases hth : t.th with
 | num m => rw [hth] at hy; exact hy
 | nms c zs =>
  rw [hth] at hy
  obtain ⟨q, e, hq⟩ := hy
  exact ⟨q, e, s _ _ hq (uo hq hx Z7)⟩
theorem FW {r : cL} (h : r.so = 0) : cG r = "let " ++ r.nm ++ " be " ++ textOf r.ts := by unfold cG; rw [h]; rfl
theorem Ft {r : cL} (h : r.so = 1) : cG r = "deed " ++ r.nm ++ " be " ++ textOf r.ts := by unfold cG; rw [h]; rfl
theorem Gv {r : cL} (h : r.so = 2) : cG r = "draw " ++ r.ad ++ " as " ++ r.nm := by unfold cG; rw [h]; rfl
theorem Gq {r : cL} (h : r.so = 3) : cG r = "late " ++ r.ad ++ " as " ++ r.nm := by unfold cG; rw [h]; rfl
theorem Gi {r : cL} (h : r.so = 4) : cG r = "take " ++ r.wd ++ " from " ++ r.ad ++ " as " ++ r.nm := by unfold cG; rw [h]; rfl
theorem Hu {r : cL} (h : r.so = 5) : cG r = "need " ++ textOf r.ts := by unfold cG; rw [h]; rfl
def jV (i j : Nat) : Bool := decide (i = j) || decide (j = 6)
theorem uH {i j : Nat} (hi : i <= 5) (hj : j <= 5) : decide (V.str (bT i) = V.str (bT j)) = jV i j := by
 have k : ∀ i j : Fin 6, decide (V.str (bT i.val) = V.str (bT j.val)) = jV i.val j.val := by decide +kernel
 exact k ⟨i, Z1⟩ ⟨j, Z1⟩
def Lx : Thg -> Thg
 | .num m => .num m
 | .nms _ ys => .nms false ys
def unc (t : Trm) : Trm := ⟨t.sg, Lx t.th⟩
theorem Gf {t : Trm} (h : m9 t) : m9 (unc t) := by
 refine ⟨h.sg, ?_⟩
 have := h.th
 unfold unc
 cases e : t.th with
 | num m => rw [e] at this; exact this
 | nms c ys => rw [e] at this; exact this
theorem DG {ts : List Trm} (h : cj ts) : cj (ts.map unc) := by
 refine ⟨fun z => h.lo (List.map_eq_nil_iff.mp z), by rw [length_map]; exact h.hi, fun t ht => ?_, fun t ht => ?_⟩
 ·obtain ⟨u, hu, rfl⟩ := mem_map.mp ht
  exact Gf (h.ok u hu)
 ·rw [List.head?_map] at ht
  cases e : ts.head? with
  | none => rw [e] at ht; cases ht
  | some u => rw [e] at ht; cases ht; exact h.hd u e
theorem MJ {ts : List Trm} : ∀ t ∈ ts.map unc, ∀ ys, t.th ≠ .nms true ys := fun t ht ys z => by
 obtain ⟨u, _, rfl⟩ := mem_map.mp ht
 unfold unc at z
 cases e : u.th with
 | num m => rw [e] at z; cases z
 | nms c zs => rw [e] at z; cases z
theorem Fp (th : Thg) : atI [V.str "path", V.str (kindOf th)] (if decide (V.str (kindOf th) = V.str "number") = true then 1 else 0) = some (V.str (kindOf (Lx th))) := by
 cases th with
 | num m => rw [decide_eq_true (show V.str (kindOf (.num m)) = V.str "number" from rfl)]; rfl
 | nms c ys =>
  have hk : ¬ V.str (kindOf (.nms c ys)) = V.str "number" := by
   cases c
   ·show ¬ V.str "path" = V.str "number"; decide +kernel
   ·show ¬ V.str "call" = V.str "number"; decide +kernel
  rw [decide_eq_false hk]
  rfl
end Mine
namespace L2
open PySem PySem.Spec PyProof.Rows PySem.W
section
variable {X : Cx} {pos : Pos} {t : TS}
end
theorem pP (xs : List V) (k : Nat) : jj xs (some (k : Int)) none = xs.drop k := by
 unfold jj
 rw [HT.sIx_none, HT.sIx_nat]
 rw [take_of_length_le (by rw [length_drop]; exact le_refl _)]
 by_cases h : k <= xs.length
 ·rw [Nat.min_eq_left h]
 ·rw [Nat.min_eq_right Z1, List.drop_length, List.drop_eq_nil_of_le Z1]
end L2
namespace Mine
open PySem PySem.Spec PyProof.Rows L2 PySem.Builtin PySem.Builtin.Str
def lM (r : cL) : List Str := match r.so with
 | 0 => "let" :: r.nm :: "be" :: wordsOf r.ts
 | 1 => "deed" :: r.nm :: "be" :: wordsOf r.ts
 | 2 => ["draw", r.ad, "as", r.nm]
 | 3 => ["late", r.ad, "as", r.nm]
 | 4 => ["take", r.wd, "from", r.ad, "as", r.nm]
 | _ => "need" :: wordsOf r.ts
theorem Bs (c : Nat) (x : List Nat) {W : List (List Nat)} (h : W ≠ []) : inter c (x :: W) = x ++ c :: inter c W := by
 cases W with
 | nil => exact absurd rfl h
 | cons y r => rfl
end Mine
namespace En
open PySem PySem.Spec PyProof.Rows
section
variable {prog : Program} {w : World} {A : Around} {E : EV} {s : Shared}
end
end En
namespace L2
open PySem PySem.Spec PyProof.Rows
section
variable {X : Cx} {K : Frag}
end
end L2
namespace En
open PySem PySem.Spec PyProof.Rows
open AutoSeq1 (wpAny_loadPart')
section
variable {prog : Program} {w : World} {A : Around} {E : EV} {s : Shared}
end
end En
namespace L2
open PySem PySem.Spec PyProof.Rows
section
variable {X : Cx} {K : Frag}
end
section
variable {X : Cx} {e : Expr} {te : TE} {pos : Pos}
end
section
variable {X : Cx}
end
theorem Kz (xs : List V) (k : Nat) : jj xs none (some (k : Int)) = xs.take k := by
 unfold jj
 rw [HT.sIx_none, HT.sIx_nat, List.drop_zero, Nat.sub_zero]
 by_cases h : k <= xs.length
 ·rw [Nat.min_eq_left h]
 ·rw [Nat.min_eq_right Z1, take_length, take_of_length_le Z1]
end L2
namespace Mine
open PySem PySem.Spec PyProof.Rows L2 PySem.Builtin PySem.Builtin.Str
end Mine
namespace L2
open PySem PySem.Spec PyProof.Rows PySem.W
abbrev bU (C : Addr) (dx : Option Addr) (vs : Array Value) : Obj := { cls := .ref C, dict := dx, data := .fields vs }
section
variable {prog : Program} {w : World} {A : Around} {R : Result -> Shared -> Prop} {h : Heap} {g : Array GenState} {d : Drawn} {t : Nat} {os : OsState}
variable {nm q : Str} {C N : Addr} {f : Value} {bs bm bmB : List Value} {hdct : Bool} {sn : List Str} {sub : List Value} {ab : Bool} {col : Option Bool} {dd : Option Addr} {k0 k1 k2 k3 k5 : Option Value} {B newId initId : String}
theorem uD (F : ExcBaseFacts B newId initId bmB) (T : OwnTail h bmB bm) {rest : List Value}
  (hC : h.get? C = some (excClassObj nm q C N bs bm hdct sn sub ab col dd k0 k1 k2 k3 k5 newId)) (hi : Looks (model prog w) h (typeLookup (.ref C) "__init__") (some f))
  (hb : ∀ self, Looks (model prog w) h (bindSpecial f self) (f, [self])) (hrest : rest.length <= sizeLine)
  (hq : codeAny (model prog w) (A.under (.builtin "type.__call__" ⟨.ref C :: rest, []⟩)) (.call f ⟨.ref (h.objs.size + 1) :: rest, []⟩) (InitBack (h.objs.size + 1) R)
   ⟨(h.push { cls := .type "tuple", data := .seq rest.toArray }).push (bU C none #[.ref h.objs.size, .none, .none, .none, .bool false, .none]), g, d, t, os⟩) :
  codeAny (model prog w) A (.call (.ref C) ⟨rest, []⟩) R ⟨h, g, d, t, os⟩ := by
 have f1 := PySem.tc_lookup
 have f2 := PySem.tc_bind (.ref C)
 have hT : (⟨h, g, d, t, os⟩ : Shared).TypeIs (.ref C) "type" := ⟨_, hC, rfl⟩
 refine codeAny_of_tree ?_
 show wpAny _ _ (callAny (.ref C) _) _ _ _
 repeat (any_goals (first | assumption | with_reducible refine wpAny_loadPart_at hC ?_ | wp_step))
 refine ⟨rfl, ?_⟩
 refine codeAny_call_builtin_at (Code.quiet_builtin _ Z4) PySem.entry_typeCall (wpAny_check_type_call_sub hC ?_)
 repeat (first | with_reducible refine wpAny_loadPart_at hC ?_ | with_reducible refine wpAny_madeBy_exc hC ?_ | wp_step)
 refine codeAny_call_builtin_code (Code.quiet_builtin _ F.quiet) (wpAny_check_new_subT F T hC ?_)
 refine codeAny_exc_new_subT F T hC ?_ hrest
 show wpAny _ _ _ _ _ _
 have kp : ∀ b o, h.get? b = some o -> ((h.push { cls := .type "tuple", data := .seq rest.toArray }).push { cls := .ref C, data := .fields #[.ref h.objs.size, .none, .none, .none, .bool false, .none] }).get? b = some o := fun b o e => Heap.get?_push_of_some _ (Heap.get?_push_of_some _ e)
 have hC₁ := kp _ _ hC
 have hget : ((h.push { cls := .type "tuple", data := .seq rest.toArray }).push { cls := .ref C, data := .fields #[.ref h.objs.size, .none, .none, .none, .bool false, .none] }).get? (h.objs.size + 1) = some { cls := .ref C, data := .fields #[.ref h.objs.size, .none, .none, .none, .bool false, .none] } := by heap_get
 have hcC : (Value.ref C :: bm).contains (.ref C) = true := by simp
 have t1 : Looks (model prog w) ((h.push { cls := .type "tuple", data := .seq rest.toArray }).push { cls := .ref C, data := .fields #[.ref h.objs.size, .none, .none, .none, .bool false, .none] }) (typeOf (.ref (h.objs.size + 1))) (.ref C) := (Looks.ld hget).andThen .now
 have s1 : Looks (model prog w) ((h.push { cls := .type "tuple", data := .seq rest.toArray }).push { cls := .ref C, data := .fields #[.ref h.objs.size, .none, .none, .none, .bool false, .none] }) (isSubtype (.ref C) (.ref C)) true := fun A' Q' E' s' k q' => by
  obtain ⟨h', g', d', tk', os'⟩ := s'
  refine wpAny_isSubtype_exc (k _ _ hC₁) ?_
  rw [hcC]
  exact q'
 have i1 := hi.keeps kp
 have b1 := (hb (.ref (h.objs.size + 1))).keeps kp
 show wpAny _ _ _ _ _ ⟨(h.push { cls := .type "tuple", data := .seq rest.toArray }).push { cls := .ref C, data := .fields #[.ref h.objs.size, .none, .none, .none, .bool false, .none] }, g, d, t, os⟩
 unfold isInstance callSpecial? specialOf
 repeat (first | with_reducible refine wpAny_call ?_ | lk)
 refine codeAny_mono hq fun r s' z => ?_
 rcases r with e | (v | _ | _ | _) <;> first | exact z | exact z.elim | skip
 obtain ⟨rfl, z⟩ := z
 exact wpAny_pure (wpAny_pure z)
theorem wG (F : ExcBaseFacts B newId initId bmB) (T : OwnTail h bmB bm) {e : Addr} {dx : Option Addr} {t0 : Addr} {a1 a2 a3 a4 a5 v : Value}
  (hC : h.get? C = some (excClassObj nm q C N bs bm hdct sn sub ab col dd k0 k1 k2 k3 k5 newId)) (he : h.get? e = some { cls := .ref C, dict := dx, data := .fields #[.ref t0, a1, a2, a3, a4, a5] })
  (hq : ∀ h', (∀ b o, b ≠ e -> h.get? b = some o -> h'.get? b = some o) -> h'.get? e = some { cls := .ref C, dict := dx, data := .fields #[.ref h.objs.size, a1, a2, a3, a4, a5] } -> R (.ok (.ret .none)) ⟨h', g, d, t, os⟩) :
  codeAny (model prog w) A (.call (.builtin initId) ⟨[.ref e, v], []⟩) R ⟨h, g, d, t, os⟩ := by
 refine (codeAny_call_builtin F.init.plain F.initEntry (wpAny_check_init_subT F T hC he rfl ?_))
 wp_walk
 have hne : e ≠ h.objs.size := ne_of_lt (Heap.lt_size he)
 refine hq _ (fun b o hb ho => ?_) ?_
 ·rw [Heap.get?_update_other _ _ (Ne.symm hb)]
  exact Heap.get?_push_of_some _ ho
 ·rw [Heap.get?_update_self _ (Heap.get?_push_of_some _ he) rfl]
  rfl
theorem G9 {E : EV} (F : ExcBaseFacts B newId initId bmB) (T : OwnTail h bmB bm) {e : Addr} {dx : Option Addr} {t0 : Addr} {a1 a2 a3 a4 a5 v : Value} {Q : EV}
  (hC : h.get? C = some (excClassObj nm q C N bs bm hdct sn sub ab col dd k0 k1 k2 k3 k5 newId)) (he : h.get? e = some { cls := .ref C, dict := dx, data := .fields #[.ref t0, a1, a2, a3, a4, a5] })
  (hq : ∀ h', (∀ b o, b ≠ e -> h.get? b = some o -> h'.get? b = some o) -> h'.get? e = some { cls := .ref C, dict := dx, data := .fields #[.ref h.objs.size, a1, a2, a3, a4, a5] } -> Q .none ⟨h', g, d, t, os⟩) :
  wpAny (model prog w) A (call (.builtin initId) [.ref e, v]) Q E ⟨h, g, d, t, os⟩ := by
 refine wpAny_call (wG F T hC he fun h' k e' => ?_)
 exact hq h' k e'
end
section
variable {prog : Program} {w : World} {A : Around} {E : EV} {s : Shared} {K : Frag} {x C : Addr} {ox : Obj} {od : Option Obj} {name : Str} {expr : Bool} {Q : EV}
theorem Jp {v : Value} (X : K.In s.heap) (I : PySem.W.InstAt s.heap x ox C od) (hga : findIn K (.ref C) "__getattribute__" = some (some (.builtin "BaseException.__getattribute__"))) (hb : mroIn K C (.type "BaseException") = some true) (hk : findIn K (.ref C) "__getattr__" = some none)
  (hf : findObj K C od name = some (.value v)) (hh : handedIn v = true) (h : Q v { s with toks := s.toks + 1 }) : wpAny (model prog w) A (getAttr (.ref x) name expr) Q E s := by
 obtain ⟨hh', g, d, t, os⟩ := s
 have L0 := I.type (M := model prog w)
 have L1 := looks_findIn (M := model prog w) X hga
 have L2 := looks_find (M := model prog w) X I hf
 unfold getAttr getAttrBy
 refine wpAny_bind (wpAny_mkText (wpAny_holding (wpAny_bind (L0.at (wpAny_bind (L1.at ?_))))))
 have LH : Looks (model prog w) hh' (hookBefore (.ref C)) none := looks_hook X (by simp only [onTheHeap]; exact hk)
 have LB : Looks (model prog w) hh' (isInstance (.ref x) (.type "BaseException")) true := L0.andThen (looks_mroIn X hb)
 show wpAny _ _ (getAttrByItsOwn (.ref x) (.str name t) (.ref C) (.builtin "BaseException.__getattribute__") true expr) _ _ ⟨hh', g, d, t + 1, os⟩
 unfold getAttrByItsOwn
 refine wpAny_bind (LH.at (wpAny_bind (wpAny_attempt (wpAny_holding ?_))))
 have hx0 : (expr && onTheHeap (Value.builtin "BaseException.__getattribute__")) = false := by cases expr <;> rfl
 have f3 := F.excAttr_ValueError.ga.bind (.ref x)
 unfold callGetattribute
 rw [hx0]
 repeat (any_goals (first | assumption | wp_step))
 show codeAny (model prog w) A (Code.call (Value.builtin "BaseException.__getattribute__") ⟨[.ref x, .str name t], []⟩) _ _
 have hk1 : builtinKind "BaseException.__getattribute__" = some .slot := by decide +kernel
 have hs1 : splitId "BaseException.__getattribute__" = some ("BaseException", "__getattribute__") := by decide +kernel
 have hc : ∀ (A' : Around) (Q' : Unit -> Shared -> Prop) (E' : EV), Q' () ⟨hh', g, d, t + 1, os⟩ -> wpAny (model prog w) A' (checkBuiltinCall "BaseException.__getattribute__" ⟨[.ref x, .str name t], []⟩) Q' E' ⟨hh', g, d, t + 1, os⟩ := fun A' Q' E' q' =>
  @check_slot (model prog w) A' E' ⟨hh', g, d, t + 1, os⟩ "BaseException.__getattribute__" "BaseException" "__getattribute__" (.ref x) [.str name t] [] Q' hk1 hs1 LB (F.args_bexc_ga (.ref x) (.str name t)) q'
 refine codeAny_call_builtin F.excAttr_ValueError.ga.plain F.entry_bexc_ga (hc _ _ _ ?_)
 unfold Builtin.«object.__getattribute__»
 repeat (first | with_reducible refine wpAny_bind (L0.at ?_) | with_reducible refine wpAny_bind (L2.at ?_) | wp_step)
 show wpAny _ _ (handedOut v) _ _ _
 rw [handedOut_of hh]; exact wpAny_pure h
end
section
variable {prog : Program} {w : World} {A : Around} {E : EV} {s : Shared} {K : Frag} {x C : Addr} {ox : Obj} {od : Option Obj} {name : Str} {expr : Bool} {Q : EV}
theorem Ew (X : K.In s.heap) (I : PySem.W.InstAt s.heap x ox C od) (hga : findIn K (.ref C) "__getattribute__" = some (some (.builtin "BaseException.__getattribute__"))) (hb : mroIn K C (.type "BaseException") = some true) (hk : findIn K (.ref C) "__getattr__" = some none)
  (hf : findObj K C od "__class__" = some (.bind (.builtin "getset_descriptor.__get__") (.builtin "object.__class__"))) (hm : mroIn K C (.type "object") = some true) {Q : Option Value -> Shared -> Prop} (h : Q (some (.ref C)) { s with toks := s.toks + 1 }) : wpAny (model prog w) A (getAttr? (.ref x) "__class__") Q E s := by
 obtain ⟨hh', g, d, t, os⟩ := s
 have L0 := I.type (M := model prog w)
 have L1 := looks_findIn (M := model prog w) X hga
 have L2 := looks_find (M := model prog w) X I hf
 unfold getAttr? getAttrBy?
 refine wpAny_bind (wpAny_mkText (wpAny_bind (wpAny_attempt ?_)))
 unfold getAttrBy
 refine wpAny_holding (wpAny_bind (L0.at (wpAny_bind (L1.at ?_))))
 have LH : Looks (model prog w) hh' (hookBefore (.ref C)) none := looks_hook X (by simp only [onTheHeap]; exact hk)
 have LB : Looks (model prog w) hh' (isInstance (.ref x) (.type "BaseException")) true := L0.andThen (looks_mroIn X hb)
 show wpAny _ _ (getAttrByItsOwn (.ref x) (.str "__class__" t) (.ref C) (.builtin "BaseException.__getattribute__") false false) _ _ ⟨hh', g, d, t + 1, os⟩
 unfold getAttrByItsOwn
 refine wpAny_bind (LH.at (wpAny_bind (wpAny_attempt (wpAny_holding ?_))))
 have hx0 : (false && onTheHeap (Value.builtin "BaseException.__getattribute__")) = false := rfl
 have f3 := F.excAttr_ValueError.ga.bind (.ref x)
 unfold callGetattribute
 rw [hx0]
 repeat (any_goals (first | assumption | wp_step))
 show codeAny (model prog w) A (Code.call (Value.builtin "BaseException.__getattribute__") ⟨[.ref x, .str "__class__" t], []⟩) _ _
 have hk1 : builtinKind "BaseException.__getattribute__" = some .slot := by decide +kernel
 have hs1 : splitId "BaseException.__getattribute__" = some ("BaseException", "__getattribute__") := by decide +kernel
 have hc : ∀ (A' : Around) (Q' : Unit -> Shared -> Prop) (E' : EV), Q' () ⟨hh', g, d, t + 1, os⟩ -> wpAny (model prog w) A' (checkBuiltinCall "BaseException.__getattribute__" ⟨[.ref x, .str "__class__" t], []⟩) Q' E' ⟨hh', g, d, t + 1, os⟩ := fun A' Q' E' q' =>
  @check_slot (model prog w) A' E' ⟨hh', g, d, t + 1, os⟩ "BaseException.__getattribute__" "BaseException" "__getattribute__" (.ref x) [.str "__class__" t] [] Q' hk1 hs1 LB (F.args_bexc_ga (.ref x) (.str "__class__" t)) q'
 refine codeAny_call_builtin F.excAttr_ValueError.ga.plain F.entry_bexc_ga (hc _ _ _ ?_)
 unfold Builtin.«object.__getattribute__»
 repeat (first | with_reducible refine wpAny_bind (L0.at ?_) | with_reducible refine wpAny_bind (L2.at ?_) | wp_step)
 refine class_get X I hm ?_
 repeat (first | exact h | wp_step)
theorem Hs (hcl : (clsIn K C).isSome = true) (hga : findIn K (.ref C) "__getattribute__" = some (some (.builtin "BaseException.__getattribute__"))) (hb : mroIn K C (.type "BaseException") = some true) (hk : findIn K (.ref C) "__getattr__" = some none)
  (hm : mroIn K C (.type "object") = some true) (hf : ∀ od, findObj K C od "__class__" = some (.bind (.builtin "getset_descriptor.__get__") (.builtin "object.__class__"))) :
  KitX K (.ref x) (.ref C) (fun h => ∃ ox od, PySem.W.InstAt h x ox C od) where
 ty := fun _ _ _ I => let ⟨_, _, I⟩ := I; I.type
 it := fun _ _ X _ => by
  obtain ⟨cdD, hcD⟩ := Option.isSome_iff_exists.mp hcl
  unfold clsIn at hcD
  split at hcD
  ·rename_i c' d' cd' sl' ho
   intro A' Q' E' s' k q
   unfold isType loadHead
   exact wpAny_bind (wpAny_loadPart (k _ _ (X _ _ ho)) (wpAny_pure q))
  ·cases hcD
 ne := fun h tp dd its n sl X htp => by
  obtain ⟨cdD, hcD⟩ := Option.isSome_iff_exists.mp hcl
  refine Bool.eq_false_iff.mpr fun q => ?_
  have e : C = tp := Value.ref.inj (beq_iff_eq.mp q)
  subst e
  unfold clsIn at hcD
  split at hcD
  ·rename_i c' d' cd' sl' ho
   have z := (X _ _ ho).symm.trans htp
   cases z
  ·cases hcD
 ca := fun X I k => let ⟨_, _, I⟩ := I; Ew X I hga hb hk (hf _) hm k
end
end L2
namespace L2
open PySem PySem.Spec PyProof.Rows PySem.W Builtin Builtin.ObjectAttr
def cQ : List Value -> Bool
 | .ref _ :: r => cQ r
 | l => l == [.type "ValueError", .type "Exception", .type "BaseException", .type "object"]
theorem pH (c : Addr) (r : List Value) : cQ (.ref c :: r) = cQ r := by rw [cQ]
theorem ux : ∀ {l : List Value}, cQ l = true -> (∃ c r, l = .ref c :: r) \/ l = [.type "ValueError", .type "Exception", .type "BaseException", .type "object"]
 | .ref c :: r, _ => .inl ⟨c, r, rfl⟩
 | [], e => by cases e
 | .type n :: r, e => .inr (eq_of_beq (by unfold cQ at e; exact e))
 | .none :: r, e => .inr (eq_of_beq (by unfold cQ at e; exact e))
 | .bool _ :: r, e => .inr (eq_of_beq (by unfold cQ at e; exact e))
 | .int _ _ :: r, e => .inr (eq_of_beq (by unfold cQ at e; exact e))
 | .str _ _ :: r, e => .inr (eq_of_beq (by unfold cQ at e; exact e))
 | .builtin _ :: r, e => .inr (eq_of_beq (by unfold cQ at e; exact e))
 | .float _ _ :: r, e => .inr (eq_of_beq (by unfold cQ at e; exact e))
 | .bytes _ _ :: r, e => .inr (eq_of_beq (by unfold cQ at e; exact e))
 | .ellipsis :: r, e => .inr (eq_of_beq (by unfold cQ at e; exact e))
 | .notImplemented :: r, e => .inr (eq_of_beq (by unfold cQ at e; exact e))
theorem oU (self : Value) : ∀ {l : List Value}, cQ l = true -> refuseLoop self "__setattr__" l = pure ()
 | l, e => by
  rcases ux e with ⟨c, r, rfl⟩ | rfl
  ·rw [refuseLoop_ref]; exact oU self (l := r) (by rw [pH] at e; exact e)
  ·exact PySem.F.store_ValueError.passes self
termination_by l => l.length
theorem o6 : ∀ {l : List Value}, cQ l = true -> l.contains (.type "object") = true
 | l, e => by
  rcases ux e with ⟨c, r, rfl⟩ | rfl
  ·rw [contains_cons, o6 (l := r) (by rw [pH] at e; exact e), Bool.or_true]
  ·decide
termination_by l => l.length
def wV (K : Frag) (C : Addr) : Bool := (clsIn K C).any fun cd => cQ cd.mro
section
variable {prog : Program} {w : World} {A : Around} {s : Shared} {K : Frag} {x C : Addr} {R : Result -> Shared -> Prop}
theorem DW {ox : Obj} {od : Option Obj} {name : Str} {tk : Tok} {v : Value} {r : Option Value} (X : K.In s.heap) (I : InstAt s.heap x ox C od) (hp : wV K C = true) (ht : takerIn K C name = some r)
  (h : ∀ b, wpAny (model prog w) A.in1 (match r with | some a => Builtin.ObjectAttr.setByDescriptor a (.ref x) v | none => Builtin.ObjectAttr.storeInOwnDict (.ref x) (.ref C) (.str name tk) name v b)
   (fun fin s' => match fin with | .done f => R (.ok f) s' | .again c' => c'.quiet = true /\ codeAny (model prog w) A c' R s') (fun e s' => R (.error e) s') s) :
  codeAny (model prog w) A (.call (.builtin "object.__setattr__") ⟨[.ref x, .str name tk, v], []⟩) R s := by
 have SF := PySem.F.store_object
 obtain ⟨cd, hc, ho⟩ := any_some hp
 have ne : cd.mro.isEmpty = false := by cases q : cd.mro with | nil => rw [q] at ho; cases ho | cons _ _ => rfl
 have sub : Looks (model prog w) s.heap (isInstance (.ref x) (.type "object")) true := I.type.andThen (looks_mroIn X (by unfold mroIn; rw [hc, bind_some, if_neg (by rw [ne]; decide), o6 ho]))
 refine codeAny_call_builtin SF.slot.plain SF.entry (@check_slot (model prog w) _ _ s "object.__setattr__" "object" "__setattr__" (.ref x) [.str name tk, v] [] _ SF.kind SF.split sub (SF.args (.ref x) (.str name tk) v) ?_)
 obtain ⟨attr, ha, hr⟩ := Option.bind_eq_some_iff.mp ht
 have hm : Looks (model prog w) s.heap (mroOf (.ref C)) cd.mro := (looks_clsIn X hc).andThen .now
 have L3 : Looks (model prog w) s.heap (storeTaker? attr) r := by
  cases attr with
  | none => cases hr; exact .now
  | some a =>
   obtain ⟨b, hb, rfl⟩ := Option.map_eq_some_iff.mp hr
   refine (looks_takesIn X hb).andThen ?_
   cases b <;> exact .now
 rw [osa_eq, refuse_eq]
 refine wpAny_bind (wpAny_bind (I.type.here (wpAny_bind (hm.here ?_))))
 rw [oU _ ho]
 refine wpAny_pure (wpAny_bind (I.type.here (wpAny_bind ((looks_findIn X ha).here (wpAny_bind (L3.here ?_))))))
 exact h _
end
section
variable {prog : Program} {w : World} {A : Around} {E : EV} {s : Shared} {K : Frag} {x C : Addr} {name : Str} {v : Value} {vs : Array Value}
theorem G6 {Q : Unit -> Shared -> Prop} (X : K.In s.heap) (hx : s.heap.get? x = some (bU C none vs))
  (hs : findIn K (.ref C) "__setattr__" = some (some (.builtin "object.__setattr__"))) (hp : wV K C = true) (ht : takerIn K C name = some none) (hh : hasDictIn K C = true)
  (h : ∀ h' t', (∀ b o, b ≠ x -> s.heap.get? b = some o -> h'.get? b = some o) -> h'.get? x = some (bU C (some s.heap.objs.size) vs) -> h'.Ns1 s.heap.objs.size (fun y => if y = name then some v else none) ->
   Q () { s with heap := h', toks := t' }) :
  wpAny (model prog w) A (setAttr (.ref x) name v) Q E s := by
 have I : InstAt s.heap x (bU C none vs) C none := ⟨hx, rfl, rfl, True.intro⟩
 refine set_plain X I hs (DW (s := { s with toks := s.toks + 1 }) (r := none) X I hp ht fun b => ?_)
 obtain ⟨cd, hc, hd'⟩ := any_some hh
 refine wpAny_bind (wpAny_pure (wpAny_bind (wpAny_bind (wpAny_loadPart hx (wpAny_bind (Looks.here (s := { s with toks := s.toks + 1 }) (looks_clsIn X hc) ?_))))))
 rw [hd']
 have hx₁ : (s.heap.push { cls := .type "dict", data := .dict #[] }).get? x = some (bU C none vs) := Heap.get?_push_of_some _ hx
 have hxs : x ≠ s.heap.objs.size := ne_of_lt (Heap.lt_size hx)
 refine wpAny_bind (wpAny_alloc' ?_)
 refine wpAny_bind (wpAny_update' hx₁ ?_)
 refine wpAny_pure ?_
 have hgd : ((s.heap.push { cls := .type "dict", data := .dict #[] }).update x fun o => { cls := o.cls, dict := some s.heap.objs.size, data := o.data, slots := o.slots }).get? s.heap.objs.size
   = some { cls := .type "dict", data := .dict #[] } :=
  (Heap.get?_update_ne _ _ _ _ hxs.symm).trans (Heap.get?_push_at rfl rfl)
 have hnd : ((s.heap.push { cls := .type "dict", data := .dict #[] }).update x fun o => { cls := o.cls, dict := some s.heap.objs.size, data := o.data, slots := o.slots }).Ns s.heap.objs.size (fun _ => none) :=
  ⟨_, #[], _, hgd, rfl, fun e he => absurd he Z2, fun _ => rfl⟩
 show wpAny _ _ (storeInDict s.heap.objs.size (.str name s.toks) name v) _ _ _
 unfold storeInDict newKeyGuard
 refine wpAny_bind (wpAny_pure (wpAny_bind (wpAny_nsSet1 (Heap.Ns1.of_empty hnd) fun h' hn' hs => ?_)))
 obtain ⟨oD, esD, epD, hoD, hdD, hcD⟩ := hn'.count (Within.cons name v Within.nil)
 refine wpAny_bind (wpAny_lookBehind hoD (by rw [hdD]; exact pastItsLine_dict (le_trans hcD (by rw [length_cons, length_nil, sizeLine_eq]; omega))) ?_)
 refine wpAny_pure (h _ _ (fun b ob hbx hb => ?_) ?_ hn')
 ·exact (hs.2 b (ne_of_lt (Heap.lt_size hb))).trans ((Heap.get?_update_ne _ _ _ _ hbx).trans (Heap.get?_push_of_some _ hb))
 ·exact (hs.2 x hxs).trans (Heap.get?_update_self _ hx₁ rfl)
end
end L2
namespace L2
open PySem PySem.Spec PyProof.Rows PySem.W
def Mm (fl : Bool) (dx : Option Addr) (a1 a2 : Value) : Prop := (fl = true -> a1 = .none) /\ (dx = none -> a2 = .none)
def ExO (fl : Bool) (x C : Addr) (dx : Option Addr) : HO := .ext fun h => ∃ t0 a1 a2 a3 a4 a5, h.get? x = some (bU C dx #[.ref t0, a1, a2, a3, a4, a5]) /\ Mm fl dx a1 a2
def XdO (p : Addr) (fs : List (Str × V)) : HO := .ext fun h => ∃ mA, h.Ns1 p mA /\ (∀ f, pB (fs.lookup f) (mA f)) /\ Within mA (fs.map (·.1))
section
variable {P : Program} {w : World} {H : Hp} {h : Heap} {fl : Bool} {x p C : Addr} {dx : Option Addr} {fs : List (Str × V)}
theorem pG {t0 : Addr} {a1 a2 a3 a4 a5 : Value} (e : h.get? x = some (bU C dx #[.ref t0, a1, a2, a3, a4, a5])) (hfl : Mm fl dx a1 a2) : cT P w H h x (ExO fl x C dx) :=
 ⟨⟨_, _, _, _, _, _, e, hfl⟩, ⟨_, e⟩, fun h1 h2 ⟨t0, a1, a2, a3, a4, a5, q, z⟩ k => ⟨t0, a1, a2, a3, a4, a5, k _ q, z⟩⟩
theorem Mt {mA : MG} (n : h.Ns1 p mA) (r : ∀ f, pB (fs.lookup f) (mA f)) (wi : Within mA (fs.map (·.1))) : cT P w H h p (XdO p fs) :=
 ⟨⟨mA, n, r, wi⟩, let ⟨o, _, _, e, _⟩ := n; ⟨o, e⟩, fun h1 h2 ⟨mA, ⟨o, es, ep, e, c⟩, r⟩ k => ⟨mA, ⟨o, es, ep, k _ e, c⟩, r⟩⟩
theorem fO (hok : HOk P w H h) (e : H x = some (ExO fl x C dx)) : ∃ t0 a1 a2 a3 a4 a5, h.get? x = some (bU C dx #[.ref t0, a1, a2, a3, a4, a5]) /\ Mm fl dx a1 a2 := (show cT P w H h x (ExO fl x C dx) from hok x _ e).1
theorem CP (hok : HOk P w H h) (e : H p = some (XdO p fs)) : ∃ mA, h.Ns1 p mA /\ (∀ f, pB (fs.lookup f) (mA f)) /\ Within mA (fs.map (·.1)) := (show cT P w H h p (XdO p fs) from hok p _ e).1
end
structure qR (K : Frag) (C : Addr) : Prop where
 ga : findIn K (.ref C) "__getattribute__" = some (some (.builtin "BaseException.__getattribute__"))
 bx : mroIn K C (.type "BaseException") = some true
 nga : findIn K (.ref C) "__getattr__" = some none
 ob : mroIn K C (.type "object") = some true
 hd : hasDictIn K C = true
 ov : wV K C = true
 sa : findIn K (.ref C) "__setattr__" = some (some (.builtin "object.__setattr__"))
 cl : findIn K (.ref C) "__class__" = some (some (.builtin "object.__class__"))
 cg : specialIn K (.builtin "object.__class__") "__get__" = some (some (.builtin "getset_descriptor.__get__"))
 ct : takesIn K (.builtin "object.__class__") = some true
theorem qR.cls {K : Frag} {C : Addr} (c : qR K C) : (clsIn K C).isSome = true := by
 obtain ⟨cd, hc, _⟩ := any_some c.hd
 rw [hc]; rfl
theorem qR.fo {K : Frag} {C : Addr} (c : qR K C) (od : Option Obj) : findObj K C od "__class__" = some (.bind (.builtin "getset_descriptor.__get__") (.builtin "object.__class__")) := by
 obtain ⟨cd, hc, _⟩ := any_some c.hd
 unfold findObj
 rw [hc, bind_some, c.cl, bind_some]
 dsimp only
 rw [c.cg, bind_some]
 dsimp only
 rw [c.ct, bind_some]
section
variable {X : Cx} {pins : OP} {σ : St} {H : Hp} {s : Shared} {fl : Bool} {a C dx : Addr} {fs : List (Str × V)} {f : Str} {v : V} {A : Around} {E : EV}
theorem JP {b : Bool} {Q : EV} (I : Inv X pins σ H s) (e : H a = some (ExO fl a C (some dx))) (d : H dx = some (XdO dx fs)) (c : qR X.K C) (n : dB X.K C f) (l : fs.lookup f = some v)
  (h : ∀ u s', Inv X pins σ H s' -> RelV v u -> Q u s') : wpAny (model X.prog X.w) A (getAttr (.ref a) f b) Q E s := by
 obtain ⟨t0, a1, a2, a3, a4, a5, hx, hfl⟩ := fO I.hok e
 obtain ⟨mA, hn, r, _⟩ := CP I.hok d
 obtain ⟨u, hu, ru⟩ := pB.some_of (v := v) (o := mA f) (by rw [<- l]; exact r f)
 obtain ⟨od, ho, hl⟩ := qP hn
 have J : InstAt s.heap a (bU C (some dx) #[.ref t0, a1, a2, a3, a4, a5]) C (some od) := ⟨hx, rfl, rfl, ho⟩
 exact Jp I.kIn J c.ga c.bx c.nga (findObj_own c.hd n rfl (by rw [hl, hu])) (wI ru) (h u _ (I.tok _) ru)
theorem FZ {y : V} {u : Value} {Q : Unit -> Shared -> Prop} (I : Inv X pins σ H s) (e : H a = some (ExO fl a C none)) (c : qR X.K C) (n : dB X.K C f) (ry : RelV y u)
  (h : ∀ p s', H p = none -> p ≠ a -> Inv X pins σ (upd (upd H p (XdO p [(f, y)])) a (ExO fl a C (some p))) s' -> Q () s') : wpAny (model X.prog X.w) A (setAttr (.ref a) f u) Q E s := by
 obtain ⟨t0, a1, a2, a3, a4, a5, hx, hfl⟩ := fO I.hok e
 have hlt : a < s.heap.objs.size := Heap.lt_size hx
 have hne : s.heap.objs.size ≠ a := ne_of_gt hlt
 refine G6 I.kIn hx c.sa c.ov n.taker c.hd fun h' t' k hx' hn' => h s.heap.objs.size _ (I.hok.fresh (le_refl _)) hne ?_
 have g1 : (h'.update a fun _ => bU C none #[.ref t0, a1, a2, a3, a4, a5]).get? a = some (bU C none #[.ref t0, a1, a2, a3, a4, a5]) := Heap.get?_update_self _ hx' rfl
 have g2 : ∀ b, b ≠ a -> (h'.update a fun _ => bU C none #[.ref t0, a1, a2, a3, a4, a5]).get? b = h'.get? b := fun b hb => Heap.get?_update_ne _ _ _ _ hb
 have I1 := I.laid (a := s.heap.objs.size) (o := XdO s.heap.objs.size [(f, y)]) (h' := h'.update a fun _ => bU C none #[.ref t0, a1, a2, a3, a4, a5]) (t' := t') (fun b o q => by
   by_cases hb : b = a
   ·subst hb; rw [hx] at q; cases q; exact g1
   ·rw [g2 b hb]; exact k b o hb q) (le_refl _) (by
   obtain ⟨o, es, ep, q, r⟩ := hn'
   refine Mt ⟨o, es, ep, by rw [g2 _ hne]; exact q, r⟩ (fun g => ?_) (fun g hg => ?_)
   ·show pB (List.lookup g [(f, y)]) (if g = f then some u else none)
    by_cases z : g = f
    ·have hb : (g == f) = true := beq_iff_eq.mpr z
     simp only [List.lookup, hb, if_pos z]; exact ry
    ·have hb : (g == f) = false := beq_eq_false_iff_ne.mpr z
     simp only [List.lookup, hb, if_neg z]; exact True.intro
   ·by_cases z : g = f
    ·rw [z]; simp
    ·exact absurd (if_neg z) hg)
 refine I1.write (x := a) (e := a) (o := ExO fl a C (some s.heap.objs.size)) (t' := t') (h' := h') (by rw [aR hne.symm, e]; exact True.intro) (.inl rfl) (fun b o hb q => by rw [<- g2 b hb]; exact q) ⟨_, hx'⟩ (pG hx' ⟨hfl.1, fun z => by cases z⟩)
theorem Hc {dx : Option Addr} {c : Value} {b : Bool} {Q : EV} (I : Inv X pins σ H s) (e : H a = some (ExO fl a C dx)) (cl : qR X.K C) (k : kitOne X.K (.ref C) c = some b) (dxd : ∀ p, dx = some p -> ∃ fs, H p = some (XdO p fs))
  (h : ∀ tk, Q (.bool b) { s with toks := tk }) : wpAny (model X.prog X.w) A (call (.builtin "isinstance") [.ref a, c]) Q E s := by
 obtain ⟨t0, a1, a2, a3, a4, a5, hx, hfl⟩ := fO I.hok e
 have J : ∃ ox od, PySem.W.InstAt s.heap a ox C od := by
  cases dx with
  | none => exact ⟨_, none, hx, rfl, rfl, True.intro⟩
  | some p =>
   obtain ⟨fs, d⟩ := dxd p rfl
   obtain ⟨mA, hn, _⟩ := CP I.hok d
   obtain ⟨od, ho, _⟩ := qP hn
   exact ⟨_, some od, hx, rfl, rfl, ho⟩
 exact kia_one (Hs cl.cls cl.ga cl.bx cl.nga cl.ob cl.fo) I.kIn J k (fun z => nomatch z) h
end
def Kv (K : Frag) (ta : TE) (f : Str) : TE := fun σ H Q => ta σ H fun x H1 => ∃ fl a C dx fs v, x = .ref a /\ H1 a = some (ExO fl a C (some dx)) /\ H1 dx = some (XdO dx fs) /\ qR K C /\ dB K C f /\ fs.lookup f = some v /\ Q v H1
def HF (K : Frag) (ta tv : TE) (f : Str) : TS := fun D σ H => tv σ H fun y H1 => ta σ H1 fun x H2 => ∃ fl a C, x = .ref a /\ H2 a = some (ExO fl a C none) /\ qR K C /\ dB K C f /\
 ∀ p, H2 p = none -> p ≠ a -> D.nx σ (upd (upd H2 p (XdO p [(f, y)])) a (ExO fl a C (some p)))
def QF : V -> Option Value
 | .ref a => some (.ref a)
 | .ty n => some (.type n)
 | _ => none
theorem Iw {y : V} {c u : Value} (e : QF y = some c) (r : RelV y u) : u = c := by
 cases y <;> cases e <;> exact r
def GQ (K : Frag) : List V -> Hp -> VK -> Prop := fun xs H Q => ∃ fl a C dx y c b, xs = [.ref a, y] /\ QF y = some c /\ H a = some (ExO fl a C dx) /\ (∀ p, dx = some p -> ∃ fs, H p = some (XdO p fs)) /\ qR K C /\ kitOne K (.ref C) c = some b /\ Q (.bl b) H
section
variable {X : Cx} {o e value : Expr} {f : Str} {pos pos' tpos : Pos} {ta tv : TE}
theorem IK (he : PE X e ta) (hb : attributeBase e f X.env (eval e X.env) = eval e X.env) : PE X (.Attribute e f pos) (Kv X.K ta f) := by
 intro pins s σ H Q I h
 refine Dm hb (thn (he pins s σ H _ I h) fun u s1 ⟨x, H1, I1, rx, fl, a, C, dx, fs, v, ex, ea, ed, c, n, l, q⟩ => ?_)
 subst ex
 obtain rfl : u = Value.ref a := rx
 exact JP I1 ea ed c n l fun u' s2 I2 ru => ⟨v, H1, I2, ru, q⟩
theorem Hw (ha : PE X o ta) (hv : PE X value tv) (hs : swapsWith value (some (.Attribute o f pos')) pos.line X.env = pure false) : PS X (.Assign [.Attribute o f pos'] value pos) (HF X.K ta tv f) := by
 intro pins s σ H D I h
 refine plainObj_wpAny_Assign_Attribute (thn (hv pins s σ H _ I h) fun u s1 ⟨y, H1, I1, ry, q⟩ => thn (ha pins s1 σ H1 _ I1 q) fun ov s2 ⟨x, H2, I2, rx, fl, a, C, ex, ea, c, n, q2⟩ => ?_) hs
 subst ex
 obtain rfl : ov = Value.ref a := rx
 exact FZ I2 ea c n ry fun p s3 h1 h2 I3 => ⟨σ, _, I3, q2 p h1 h2⟩
theorem Bg : fY X (.builtin "isinstance") (GQ X.K) := by
 intro pins s σ H xs us Q I r h
 obtain ⟨fl, a, C, dx, y, c, b, rfl, ry, ea, ed, cl, k, q⟩ := h
 obtain ⟨u, u2, rfl, rx, ry2⟩ := vals2 r
 obtain rfl : u = Value.ref a := rx
 obtain rfl := Iw ry ry2
 exact Hc I ea cl k ed fun tk => ⟨.bl b, H, I.tok tk, rfl, q⟩
end
abbrev TJ := Str -> St -> Hp -> VK -> Prop
def PJ (X : Cx) (es : List Expr) (t : TJ) : Prop :=
 ∀ (pins : OP) (s : Shared) (σ : St) (H : Hp) (out : Str) (Q : VK), Inv X pins σ H s -> t out σ H Q -> wpAny (model X.prog X.w) X.A (joinParts out (evalEach es X.env)) (EP X pins σ Q) X.xe s
def YH : TJ := fun out _ H Q => out.length <= sizeLine /\ Q (.str out) H
def Ob (te : TE) (tr : TJ) : TJ := fun out σ H Q => te σ H fun x H1 => ∃ y : Str, x = .str y /\ (out ++ y).length <= sizeLine /\ tr (out ++ y) σ H1 Q
def YF (te : TE) : TE := fun σ H Q => te σ H fun x H1 => (∃ i : Int, x = .int i /\ i.natAbs.log2 < 1920 /\ Q (.str (toString i)) H1) \/ ∃ y : Str, x = .str y /\ y.length <= sizeLine /\ Q (.str y) H1
section
variable {X : Cx} {e v1 v2 : Expr} {es : List Expr} {te : TE} {tr : TJ} {pos : Pos}
theorem Ge : PJ X [] YH := fun pins s σ H out Q I ⟨h1, h2⟩ => joinParts_nil ⟨.str out, H, I.tok _, ⟨_, rfl⟩, h2⟩ h1
theorem tL (he : PE X e te) (hr : PJ X es tr) (hs : evalEach (e :: es) X.env = eval e X.env :: evalEach es X.env := by rfl) : PJ X (e :: es) (Ob te tr) := by
 intro pins s σ H out Q I h
 rw [hs]
 refine joinParts_cons (thn (he pins s σ H _ I h) fun u s1 ⟨x, H1, I1, rx, y, ex, hl, q⟩ => ?_)
 subst ex
 obtain ⟨t, rfl⟩ := (show ∃ t, u = Value.str y t from rx)
 exact ⟨hl, hr pins s1 σ H1 _ Q I1 q⟩
theorem vW (h : PJ X (v1 :: v2 :: es) tr) : PE X (.JoinedStr (v1 :: v2 :: es) pos) (tr Str.empty) := fun pins s σ H Q I q => JoinedStr_many (h pins s σ H _ Q I q)
theorem HN (he : PE X e te) : PE X (.FormattedValue e (-1) none pos) (YF te) := by
 intro pins s σ H Q I h
 refine FormattedValue_plain (thn (he pins s σ H _ I h) fun u s1 ⟨x, H1, I1, rx, q⟩ => ?_)
 rcases q with ⟨i, ex, hl, q⟩ | ⟨y, ex, hl, q⟩
 ·subst ex
  obtain ⟨t, rfl⟩ := (show ∃ t, u = Value.int i t from rx)
  exact formatField_int_small hl ⟨.str (toString i), H1, I1.tok _, ⟨_, rfl⟩, q⟩
 ·subst ex
  obtain ⟨t, rfl⟩ := (show ∃ t, u = Value.str y t from rx)
  exact formatField_str (fun t' tk => ⟨.str y, H1, I1.tok _, ⟨_, rfl⟩, q⟩) hl
end
abbrev cJ : List Value := [.type "ValueError", .type "Exception", .type "BaseException", .type "object"]
def ExC (K : Frag) (C : Addr) : Prop := ∃ nm q N bs bm hdct sn sub ab col dd k0 k1 k2 k3 k5, K.lookup C = some (excClassObj nm q C N bs bm hdct sn sub ab col dd k0 k1 k2 k3 k5 "ValueError.__new__") /\ ∀ h, K.In h -> OwnTail h cJ bm
theorem zb {H : Hp} {a : Addr} {o : HO} (e : H a = some o) : upd H a o = H := by
 funext b
 by_cases hb : b = a
 ·subst hb; rw [ao, e]
 ·rw [aR hb]
section
variable {X : Cx} {pins : OP} {σ : St} {H : Hp} {s : Shared} {fl : Bool} {a C B : Addr} {dx : Option Addr} {A : Around} {E : EV}
theorem Hl {u : Value} {Q : EV} (I : Inv X pins σ H s) (e : H a = some (ExO fl a C dx)) (c : ExC X.K C) (h : ∀ s', Inv X pins σ H s' -> Q .none s') :
  wpAny (model X.prog X.w) A (call (.builtin "ValueError.__init__") [.ref a, u]) Q E s := by
 obtain ⟨nm, q, N, bs, bm, hdct, sn, sub, ab, col, dd, k0, k1, k2, k3, k5, hc, T⟩ := c
 obtain ⟨t0, a1, a2, a3, a4, a5, hx, hfl⟩ := fO I.hok e
 obtain ⟨hh, g, d, t, os⟩ := s
 refine G9 excBase_ValueError (T _ I.kIn) (I.kIn _ _ hc) hx fun h' k hx' => h _ ?_
 have z := I.write (x := a) (e := a) (o := ExO fl a C dx) (t' := t) (h' := h') (by rw [e]; exact True.intro) (.inl rfl) (fun b o hb q => k b o hb q) ⟨_, hx'⟩ (pG hx' hfl)
 rwa [zb e] at z
def Mg (K : Frag) (t : TA) : TE := fun σ H Q => t σ H fun vs H1 => ∃ fl a C dx y, vs = [.ref a, y] /\ H1 a = some (ExO fl a C dx) /\ ExC K C /\ Q .non H1
theorem Ai {x : Str} {e1 : Expr} {es : List Expr} {t : TA} {p apos pos : Pos} {pl : Sem Bool} (hg : Gl X x) (hm : X.mg x = some (.ref B)) (hs : specialIn X.K (.ref B) "__getattribute__" = some (some (.builtin "type.__getattribute__")))
  (hr : readsIn X.K B (.type "type") = true) (hf : findCls X.K (.ref B) (.type "type") "__init__" = some (.val (.builtin "ValueError.__init__"))) (ha : PA X (e1 :: es) t)
  (hdb : (x == ("__debug__" : Str)) = false := by decide) (he : starEach (e1 :: es) X.env = (false, eval e1 X.env) :: starEach es X.env := by rfl) (hpl : (backTo pos (starEach es X.env)).any (·.1) = false := by rfl)
  (ht : eval (.Call (.Attribute (.Name x p) "__init__" apos) (e1 :: es) [] pos) X.env = (do
   let ov <- eval (.Name x p) X.env
   standAt apos.atName
   let (f, first) <- holding [ov] (getMethod ov "__init__" pl)
   callWith pos f first (backTo pos (starEach (e1 :: es) X.env)) (backToKw pos (keywordEach [] X.env))) := by rfl) :
  PE X (.Call (.Attribute (.Name x p) "__init__" apos) (e1 :: es) [] pos) (Mg X.K t) := by
 intro pins s σ H Q I h
 refine PySem.W.methodCall_KW (pl := pl) (fj I hg hm ?_ hdb) ht
 refine method_cls I.kIn hs (cls_value I.kIn hr hf rfl ?_)
 have I0 : Inv X pins σ H { s with toks := s.toks + 1 } := I.tok _
 refine PyProof.Rows.callWith_builtin1 (thn (ha pos pins _ σ H _ I0 h) fun us s1 ⟨vs, H1, I1, r1, fl, a, C, dx, y, ev, ea, c, q1⟩ => ?_) he hpl
 subst ev
 obtain ⟨u, u2, rfl, rx, _⟩ := vals2 r1
 obtain rfl : u = Value.ref a := rx
 exact Hl I1 ea c fun s' I' => ⟨.non, H1, I', rfl, q1⟩
end
def Bm (C : Addr) (sp : Sp) (dvs : List V) (E : XK) (t : TA) : TE := fun σ H Q => t σ H fun vs H1 => ∀ x, H1 x = none ->
 sp (.ref x :: (vs ++ dvs)) (upd H1 x (ExO true x C none)) (fun v H2 => v = .non /\ Q (.ref x) H2) E
def Io (C : Addr) (t : TA) : TE := fun σ H Q => t σ H fun vs H1 => vs.length = 1 /\ ∀ x, H1 x = none -> Q (.ref x) (upd H1 x (ExO true x C none))
section
variable {X : Cx} {CX : CXT} {k : Nat} {f C : Addr} {fd : FuncData} {ps : List Str} {sp : Sp} {dvs : List V} {ds : List Value} {E : XK} {x : Str} {p pos : Pos} {e : Expr} {es : List Expr} {t : TA}
theorem Inv.madeX {pins : OP} {σ : St} {H : Hp} {s : Shared} {us : List Value} (I : Inv X pins σ H s) : Inv X pins σ (upd H (s.heap.objs.size + 1) (ExO true (s.heap.objs.size + 1) C none))
  { s with heap := (s.heap.push { cls := .type "tuple", data := .seq us.toArray }).push (bU C none #[.ref s.heap.objs.size, .none, .none, .none, .bool false, .none]) } := by
 have hget : ((s.heap.push { cls := .type "tuple", data := .seq us.toArray }).push (bU C none #[.ref s.heap.objs.size, .none, .none, .none, .bool false, .none])).get? (s.heap.objs.size + 1) = some (bU C none #[.ref s.heap.objs.size, .none, .none, .none, .bool false, .none]) := by heap_get
 exact I.laid (a := s.heap.objs.size + 1) (t' := s.toks) (fun b u q => Heap.get?_push_of_some _ (Heap.get?_push_of_some _ q)) (le_succ _) (pG hget ⟨fun _ => rfl, fun _ => rfl⟩)
theorem Ei {pins : OP} {σ : St} {H : Hp} {s : Shared} {Q : VK} {us : List Value} {vs : List V} (c : ExC X.K C) (hi : findIn X.K (.ref C) "__init__" = some (some (.ref f))) (hf : isFn X.K (.ref f) = true)
  (F : aO X.prog X.w X.K X.mg X.base CX k f fd ps sp) (hr : bh (k + 1) X.A) (hb : Binds X.K fd ps ds) (hd : Vals dvs ds) (hx : nA CX X E) (I : Inv X pins σ H s) (r : Vals vs us) (hps : ps.length <= 1000)
  (h : ∀ x, H x = none -> sp (.ref x :: (vs ++ dvs)) (upd H x (ExO true x C none)) (fun v H2 => v = .non /\ Q (.ref x) H2) E) :
  wpAny (model X.prog X.w) X.A (call (.ref C) us) (EP X pins σ Q) X.xe s := by
 have hq := h (s.heap.objs.size + 1) (I.hok.fresh (le_succ _))
 have I2 := Inv.madeX (C := C) (us := us) I
 have r2 : Vals (V.ref (s.heap.objs.size + 1) :: (vs ++ dvs)) (Value.ref (s.heap.objs.size + 1) :: (us ++ ds)) := .cons rfl (r.append hd)
 have hl : (Value.ref (s.heap.objs.size + 1) :: us ++ ds).length = ps.length := by
  have e := r2.length
  rw [F.len _ _ _ _ hq] at e
  exact e.symm
 have hus : us.length <= sizeLine := by
  have : us.length <= ps.length := by rw [<- hl, length_append, length_cons]; omega
  exact le_trans this (le_trans hps Z0)
 obtain ⟨nm, q, N, bs, bm, hdct, sn, sub, ab, col, dd, k0, k1, k2, k3, k5, hc, T⟩ := c
 refine wpAny_call (uD excBase_ValueError (T _ I.kIn) (I.kIn _ _ hc) (looks_findIn I.kIn hi) (fun self => bind_fn I.kIn self (beq_iff_eq.mp hf)) hus
  (codeAny_mono (F.run _ X.stack _ _ ⟨Value.ref (s.heap.objs.size + 1) :: us, []⟩ (Value.ref (s.heap.objs.size + 1) :: (us ++ ds)) _ _ E (hr.make C us [])
  (I2.env0.make C us []) (hb _ (Value.ref (s.heap.objs.size + 1) :: us) I2.kIn hl) r2 hq) fun r s' hq' => ?_))
 cases r with
 | error e => exact hx pins σ _ _ e s' I2 hq'
 | ok fl =>
  cases fl with
  | ret u =>
   obtain ⟨v, H', I3, rv, ev, q3⟩ := I2.after hq'
   subst ev
   exact ⟨rv, ⟨V.ref (s.heap.objs.size + 1), H', I3, rfl, q3⟩⟩
  | next => exact False.elim hq'
  | brk => exact False.elim hq'
  | cont => exact False.elim hq'
theorem Ib (c : ExC X.K C) (hi : findIn X.K (.ref C) "__init__" = some (some (.ref f))) (hf : isFn X.K (.ref f) = true) (hkp : keepIn X.K (.ref C) = true)
  (F : aO X.prog X.w X.K X.mg X.base CX k f fd ps sp) (hr : bh (k + 1) X.A) (hg : Gl X x) (hm : X.mg x = some (.ref C)) (hb : Binds X.K fd ps ds) (hd : Vals dvs ds) (hx : nA CX X E) (hps : ps.length <= 1000)
  (ha : PA X (e :: es) t) (hdb : (x == ("__debug__" : Str)) = false := by decide) (he : starEach (e :: es) X.env = (false, eval e X.env) :: starEach es X.env := by rfl) (hpl : (backTo pos (starEach es X.env)).any (·.1) = false := by rfl) :
  PE X (.Call (.Name x p) (e :: es) [] pos) (Bm C sp dvs E t) := by
 intro pins s σ H Q I h
 refine wpAny_Call_Name_kw (fj I hg hm ?_ hdb)
 refine callWith_K (h₀ := X.base) I.ok.mod.kin hkp (thn (ha pos pins s σ H _ I h) fun us s1 ⟨vs, H1, I1, r, q⟩ => ⟨I1.kIn, ?_⟩) he hpl
 exact Ei c hi hf F hr hb hd hx I1 r hps q
theorem lz (c : ExC X.K C) (hi : findIn X.K (.ref C) "__init__" = some (some (.builtin "ValueError.__init__"))) (hkp : keepIn X.K (.ref C) = true) (hg : Gl X x) (hm : X.mg x = some (.ref C))
  (ha : PA X (e :: es) t) (hdb : (x == ("__debug__" : Str)) = false := by decide) (he : starEach (e :: es) X.env = (false, eval e X.env) :: starEach es X.env := by rfl) (hpl : (backTo pos (starEach es X.env)).any (·.1) = false := by rfl) :
  PE X (.Call (.Name x p) (e :: es) [] pos) (Io C t) := by
 intro pins s σ H Q I h
 refine wpAny_Call_Name_kw (fj I hg hm ?_ hdb)
 refine callWith_K (h₀ := X.base) I.ok.mod.kin hkp (thn (ha pos pins s σ H _ I h) fun us s1 ⟨vs, H1, I1, r, hl1, q⟩ => ⟨I1.kIn, ?_⟩) he hpl
 obtain ⟨u, rfl⟩ : ∃ u, us = [u] := List.length_eq_one_iff.mp (r.length.symm.trans hl1)
 have hq := q (s1.heap.objs.size + 1) (I1.hok.fresh (le_succ _))
 have I2 := Inv.madeX (C := C) (us := [u]) I1
 obtain ⟨nm, q', N, bs, bm, hdct, sn, sub, ab, col, dd, k0, k1, k2, k3, k5, hc, T⟩ := c
 have hx : (upd H1 (s1.heap.objs.size + 1) (ExO true (s1.heap.objs.size + 1) C none)) (s1.heap.objs.size + 1) = some (ExO true (s1.heap.objs.size + 1) C none) := ao
 refine wpAny_call (uD excBase_ValueError (T _ I1.kIn) (I1.kIn _ _ hc) (looks_findIn I1.kIn hi) (fun self => Looks.of_pure (excBase_ValueError.init.bind self)) (show 1 <= sizeLine by decide) ?_)
 have hget : ((s1.heap.push { cls := .type "tuple", data := .seq [u].toArray }).push (bU C none #[.ref s1.heap.objs.size, .none, .none, .none, .bool false, .none])).get? (s1.heap.objs.size + 1) = some (bU C none #[.ref s1.heap.objs.size, .none, .none, .none, .bool false, .none]) := by heap_get
 refine wG excBase_ValueError (T _ I2.kIn) (I2.kIn _ _ hc) hget fun h' k hx' => ⟨rfl, V.ref (s1.heap.objs.size + 1), _, ?_, rfl, hq⟩
 have z := I2.write (x := s1.heap.objs.size + 1) (e := s1.heap.objs.size + 1) (o := ExO true (s1.heap.objs.size + 1) C none) (t' := s1.toks) (h' := h') (by rw [hx]; exact True.intro) (.inl rfl) (fun b o hb q => k b o hb q) ⟨_, hx'⟩ (pG hx' ⟨fun _ => rfl, fun _ => rfl⟩)
 rwa [zb hx] at z
end
def qm (es : Array DictEntry) : Bool := es.toList.all fun e => match e.key with | .str _ _ => true | _ => false
theorem Aq {es : Array DictEntry} (e : qm es = true) : StrKeys es := by
 intro d hd
 have := all_eq_true.mp e d (Array.mem_toList_iff.mpr hd)
 split at this
 ·rename_i x t q; exact ⟨x, t, q⟩
 ·cases this
theorem Ue {K : Frag} {N : Addr} {oN : Value} {dN : Option Addr} {es : Array DictEntry} {nn : Nat} {sl : Array (Option Value)} {h : Heap} (X : K.In h) (l : K.lookup N = some ⟨oN, dN, .dict es nn, sl⟩) (e : qm es = true) : h.Ns N (nsFind es) :=
 ⟨_, es, nn, X _ _ l, rfl, Aq e, fun _ => rfl⟩
section
variable {K : Frag} {C D N HE M : Addr} {nm q nm' q' : Str} {bs bs' bm bm' : List Value} {sn sn' : List Str} {sub sub' : List Value} {ab ab' hdct hdct' : Bool} {col col' : Option Bool} {dd dd' : Option Addr} {k0 k1 k2 k3 k5 j0 j1 j2 j3 j5 : Option Value} {oN : Value} {dN : Option Addr} {es : Array DictEntry} {nn : Nat} {sl : Array (Option Value)} {i i' : String}
theorem Mq (l : K.lookup HE = some (excClassObj nm q HE N bs cJ hdct sn sub ab col dd k0 k1 k2 k3 k5 "ValueError.__new__")) : ExC K HE :=
 ⟨_, _, _, _, _, _, _, _, _, _, _, _, _, _, _, _, l, fun h X => .base⟩
theorem Ii (l : K.lookup HE = some (excClassObj nm q HE N bs cJ hdct sn sub ab col dd k0 k1 k2 k3 k5 i)) (n : K.lookup N = some ⟨oN, dN, .dict es nn, sl⟩) (e : qm es = true) (hi : nsFind es "__init__" = none)
  (l' : K.lookup C = some (excClassObj nm' q' C M bs' (.ref HE :: cJ) hdct' sn' sub' ab' col' dd' j0 j1 j2 j3 j5 "ValueError.__new__")) : ExC K C :=
 ⟨_, _, _, _, _, _, _, _, _, _, _, _, _, _, _, _, l', fun h X => .own (X _ _ l) (Ue X n e) hi .base⟩
theorem uy (l : K.lookup C = some (excClassObj nm q C N bs bm hdct sn sub ab col dd k0 k1 k2 k3 k5 i)) : ∃ cd, clsIn K C = some cd /\ cd.mro = .ref C :: bm /\ cd.hasDict = hdct := ⟨_, by unfold clsIn; rw [l], rfl, rfl⟩
theorem xX {b : Value} (l : K.lookup C = some (excClassObj nm q C N bs bm hdct sn sub ab col dd k0 k1 k2 k3 k5 i)) : mroIn K C b = some ((Value.ref C :: bm).contains b) := by
 obtain ⟨cd, h1, h2, _⟩ := uy l
 unfold mroIn
 rw [h1, bind_some, h2, if_neg Z2]
theorem JB (l : K.lookup C = some (excClassObj nm q C N bs bm hdct sn sub ab col dd k0 k1 k2 k3 k5 i)) (l' : K.lookup D = some (excClassObj nm' q' D M bs' bm' hdct' sn' sub' ab' col' dd' j0 j1 j2 j3 j5 i')) :
  kitOne K (.ref C) (.ref D) = some ((Value.ref C :: bm).contains (.ref D)) := by
 unfold kitOne
 by_cases e : (Value.ref C == Value.ref D) = true
 ·rw [if_pos e, eq_of_beq e]; simp
 ·rw [if_neg e]
  obtain ⟨cd, h1, _⟩ := uy l'
  have h2 : typeIn K (.ref D) = some (.type "type") := by show (K.lookup D).map (·.cls) = _; rw [l']; rfl
  show (if ((clsIn K D).isSome && typeIn K (.ref D) == some (.type "type")) = true then mroIn K C (.ref D) else none) = _
  rw [h1, h2, if_pos Z2, xX l]
theorem My {n : String} (hn : kitMeta n = true) (l : K.lookup C = some (excClassObj nm q C N bs bm hdct sn sub ab col dd k0 k1 k2 k3 k5 i)) : kitOne K (.ref C) (.type n) = some ((Value.ref C :: bm).contains (.type n)) := by
 unfold kitOne
 rw [if_neg (by intro z; cases eq_of_beq z)]
 show (if kitMeta n = true then mroIn K C (.type n) else none) = _
 rw [if_pos hn, xX l]
theorem JH (l : K.lookup C = some (excClassObj nm q C N bs bm true sn sub ab col dd k0 k1 k2 k3 k5 i)) (hb : cQ bm = true) (hbe : bm.contains (.type "BaseException") = true)
  (ga : findIn K (.ref C) "__getattribute__" = some (some (.builtin "BaseException.__getattribute__"))) (nga : findIn K (.ref C) "__getattr__" = some none)
  (sa : findIn K (.ref C) "__setattr__" = some (some (.builtin "object.__setattr__"))) (cl : findIn K (.ref C) "__class__" = some (some (.builtin "object.__class__")))
  (cg : specialIn K (.builtin "object.__class__") "__get__" = some (some (.builtin "getset_descriptor.__get__"))) (ct : takesIn K (.builtin "object.__class__") = some true) : qR K C := by
 obtain ⟨cd, h1, h2, h3⟩ := uy l
 refine ⟨ga, ?_, nga, ?_, ?_, ?_, sa, cl, cg, ct⟩
 ·rw [xX l, contains_cons, hbe, Bool.or_true]
 ·rw [xX l, contains_cons, o6 hb, Bool.or_true]
 ·unfold hasDictIn; rw [h1]; exact h3
 ·unfold wV; rw [h1]; show cQ cd.mro = true; rw [h2, pH]; exact hb
end
structure XIn (K : Frag) (C : Addr) (qual : Str) (st : Stmt) (ps : List Str) (f : Addr) (fd : FuncData) : Prop where
 F : Fun K "__init__" qual st f fd
 b : Binds K fd ps []
 i : findIn K (.ref C) "__init__" = some (some (.ref f))
 fn : isFn K (.ref f) = true
 kp : keepIn K (.ref C) = true
 sm : ps.length <= 1000
theorem sG : bootBuiltins "ValueError" = some (.type "ValueError") := by decide +kernel
theorem Iu {i : Int} (h : i.natAbs.log2 < 1920) : (Str.ofString (toString i)).length <= 5000 := by
 have e := int_text_length_le (k := 1920) Z0 h
 rw [PySem.ofString_length]; omega
section
variable {X : Cx} {k : Nat} {f C : Addr} {fd : FuncData} {ps : List Str} {sp : Sp} {x qual : Str} {st : Stmt} {p pos pos' : Pos} {e o value : Expr} {es : List Expr} {t : TA} {ta tv : TE} {g : Str}
theorem Ku (A : XIn X.K C qual st ps f fd) (G : aO X.prog X.w X.K X.mg X.base CX0 k f fd ps sp) (hr : bh (k + 1) X.A) (hm : X.mg x = some (.ref C)) (c : ExC X.K C) (ha : PA X (e :: es) t) (hg : Gl X x := by rfl)
  (hdb : (x == ("__debug__" : Str)) = false := by decide) (he : starEach (e :: es) X.env = (false, eval e X.env) :: starEach es X.env := by rfl) (hpl : (backTo pos (starEach es X.env)).any (·.1) = false := by rfl) :
  PE X (.Call (.Name x p) (e :: es) [] pos) (Bm C sp [] E0 t) := Ib c A.i A.fn A.kp G hr hg hm A.b .nil Dc A.sm ha hdb he hpl
theorem dG {y : Addr} (h : X.mg x = some (.ref y)) (hg : Gl X x := by rfl) (hd : (x == ("__debug__" : Str)) = false := by decide) : PE X (.Name x pos) (tC (.ref y)) := tQ hg h rfl hd
theorem yV (ha : PE X o ta) (hv : PE X value tv) (hs : swapsWith value (some (.Attribute o g pos')) pos.line X.env = pure false := by rfl) : QS X (.Assign [.Attribute o g pos'] value pos) (HF X.K ta tv g) := ⟨Hw ha hv hs⟩
end
def il (K : Frag) (C : Addr) (bm : List Value) : Prop := ∃ nm q N bs sn sub ab col dd k0 k1 k2 k3 k5, K.lookup C = some (excClassObj nm q C N bs bm true sn sub ab col dd k0 k1 k2 k3 k5 "ValueError.__new__")
theorem Ml (a : Addr) : cJ.contains (.ref a) = false := rfl
structure vX (fr : List Addr) (e : Addr) (old : Option Addr) (h h' : Heap) : Prop where
 keep : ∀ b o, h.get? b = some o -> b ≠ e -> some b ≠ old -> b ∉ fr -> h'.get? b = some o
 slot : ∀ b o, h.get? b = some o -> b ≠ e -> some b ≠ old -> ∃ sl, h'.get? b = some { o with slots := sl }
 there : ∀ b o, h.get? b = some o -> ∃ o', h'.get? b = some o'
 size : h.objs.size <= h'.objs.size
def zO (h : Heap) (T : Addr) : Prop := ∃ oT ts, h.get? T = some oT /\ oT.data = .fields ts /\ ts[3]? = some .none
theorem Hh {o : Obj} {vs : Array Value} (hd : o.data = .fields vs) (f : Array Value -> Array Value) : Obj.mapFields f o = { o with data := .fields (f vs) } := by
 obtain ⟨c, d, dt, sl⟩ := o
 cases (show dt = .fields vs from hd)
 rfl
theorem tO {o : Obj} {vs : Array Value} (hd : o.data = .fields vs) : o.isFreed = false := Obj.isFreed_of_fields hd
section
variable {M : Model} {A : Around} {E : EV} {s : Shared} {base : Heap} {env : Env} {outer : List Env} {L e : Addr} {oe : Obj} {vs : Array Value} {Q : Unit -> Shared -> Prop}
theorem CT {head : Value} {nx : Bool} (hfr : A.frames = some (env :: outer)) (hl : s.heap.FunFrames base (env :: outer)) (hf : env.frame = some L) (he : s.heap.get? e = some oe) (hd : oe.data = .fields vs) (hsz : 1 < vs.size)
  (h : ∀ h' T, vX (frs (env :: outer)) e none s.heap h' -> h'.get? e = some { oe with data := .fields (vs.setIfInBounds 1 (.ref T)) } -> s.heap.objs.size <= T -> zO h' T -> Q () { s with heap := h' }) :
  wpAny M A (do
   let a <- frameOf env
   let pl <- entryPlaceOf L nx
   let b <- EntryCells.newEntry head a .none (rawInt L) .none pl
   setField (.ref e) 1 b) (fun _ s' => wpAny M A (setFlight (.ref e) none) Q E s') E s := by
 have en : e ∉ frs (env :: outer) := fun hm => by
  obtain ⟨_, o, ho, hn⟩ := hl.mem hm
  rw [he] at ho; cases ho; exact hn vs hd
 have elt : e < s.heap.objs.size := Heap.lt_size he
 refine wpAny_bind (wpAny_frameOf_fun hfr hl hf fun g1 G1 => ?_)
 refine wpAny_bind (wpAny_entryPlaceOf fun pl hpl => ?_)
 unfold EntryCells.newEntry newFields
 refine wpAny_bind (wpAny_newObj_type ?_ (hpl.sizeOk5 _ _ _ _ _))
 have e1 : g1.get? e = some oe := (G1.2.1 e en).trans he
 have z1 : g1.objs.size = s.heap.objs.size := G1.1
 have hts : (([head, .ref L, .none, rawInt L, .none] ++ (if pl.isEmpty then List.replicate 6 Value.none else pl)).toArray : Array Value).size > 3 := by
  simp only [size_toArray, length_append, length_cons, length_nil]
  omega
 generalize (([head, .ref L, .none, rawInt L, .none] ++ (if pl.isEmpty then List.replicate 6 Value.none else pl)).toArray : Array Value) = tv at hts
 have t2 := Heap.get?_push_size g1 (o := { cls := .type "traceback", dict := none, data := .fields tv }) rfl
 have k2 : ∀ b o, g1.get? b = some o -> (g1.push { cls := .type "traceback", dict := none, data := .fields tv }).get? b = some o := fun b o q => Heap.get?_push_of_some _ q
 have z2 : (g1.push { cls := .type "traceback", dict := none, data := .fields tv }).objs.size = g1.objs.size + 1 := Heap.size_push _ _
 generalize g1.push { cls := .type "traceback", dict := none, data := .fields tv } = g2 at t2 k2 z2
 have Tne : g1.objs.size ≠ e := ne_of_gt (by rw [z1]; exact elt)
 refine wpAny_setField (k2 _ _ e1) hd hsz ?_
 have e3 := Heap.get?_update_self (h := g2) (Obj.mapFields (·.setIfInBounds 1 (Value.ref g1.objs.size))) (k2 _ _ e1) (by rw [Hh hd]; exact tO rfl)
 rw [Hh hd] at e3
 have o3 : ∀ b, b ≠ e -> (g2.update e (Obj.mapFields (·.setIfInBounds 1 (Value.ref g1.objs.size)))).get? b = g2.get? b := fun b hb => Heap.get?_update_other _ _ (Ne.symm hb)
 have z3 : (g2.update e (Obj.mapFields (·.setIfInBounds 1 (Value.ref g1.objs.size)))).objs.size = g2.objs.size := by cases g2; simp [Heap.update]
 generalize g2.update e (Obj.mapFields (·.setIfInBounds 1 (Value.ref g1.objs.size))) = g3 at e3 o3 z3
 unfold setFlight
 refine wpAny_bind (wpAny_field e3 rfl (x := .ref g1.objs.size) (by simp [hsz]) ?_)
 rw [if_pos (show (Value.ref g1.objs.size != Value.none) = true from by simp)]
 have t3 := (o3 _ Tne).trans t2
 refine wpAny_setField t3 rfl hts ?_
 have t4 := Heap.get?_update_self (h := g3) (Obj.mapFields (·.setIfInBounds 3 ((none : Option Addr).elim Value.none fun f => rawInt f))) t3 (tO rfl)
 have o4 : ∀ b, b ≠ g1.objs.size -> (g3.update g1.objs.size (Obj.mapFields (·.setIfInBounds 3 ((none : Option Addr).elim Value.none fun f => rawInt f)))).get? b = g3.get? b := fun b hb => Heap.get?_update_other _ _ (Ne.symm hb)
 have z4 : (g3.update g1.objs.size (Obj.mapFields (·.setIfInBounds 3 ((none : Option Addr).elim Value.none fun f => rawInt f)))).objs.size = g3.objs.size := by cases g3; simp [Heap.update]
 generalize g3.update g1.objs.size (Obj.mapFields (·.setIfInBounds 3 ((none : Option Addr).elim Value.none fun f => rawInt f))) = g4 at t4 o4 z4
 have all : ∀ b o, b ≠ e -> g1.get? b = some o -> g4.get? b = some o := fun b o hb q => by
  rw [o4 b (ne_of_lt (Heap.lt_size q)), o3 b hb]; exact k2 b o q
 have e4 : g4.get? e = some { oe with data := .fields (vs.setIfInBounds 1 (.ref g1.objs.size)) } := (o4 e (Ne.symm Tne)).trans e3
 refine h g4 g1.objs.size ⟨fun b o q hb _ hn => all b o hb ((G1.2.1 b hn).trans q), fun b o q hb _ => ?_, fun b o q => ?_, Z1⟩ e4 Z1 ⟨_, _, t4, rfl, by simp [hts]⟩
 ·obtain ⟨sl, q1⟩ := G1.2.2 b o q
  exact ⟨sl, all b _ hb q1⟩
 ·by_cases hb : b = e
  ·subst hb; exact ⟨_, e4⟩
  ·obtain ⟨sl, q1⟩ := G1.2.2 b o q
   exact ⟨_, all b _ hb q1⟩
theorem Bv (hfr : A.frames = some (env :: outer)) (hl : s.heap.FunFrames base (env :: outer)) (hf : env.frame = some L) (he : s.heap.get? e = some oe) (hd : oe.data = .fields vs) (h1 : vs[1]? = some .none)
  (h : ∀ h' T, vX (frs (env :: outer)) e none s.heap h' -> h'.get? e = some { oe with data := .fields (vs.setIfInBounds 1 (.ref T)) } -> s.heap.objs.size <= T -> zO h' T -> Q () { s with heap := h' }) :
  wpAny M A (noteFrame (.ref e) env) (fun _ s' => wpAny M A (setFlight (.ref e) none) Q E s') E s := by
 unfold noteFrame
 simp only [hf]
 refine wpAny_bind (wpAny_field he hd h1 ?_)
 rw [if_neg Z0]
 exact CT hfr hl hf he hd (Array.getElem?_eq_some_iff.mp h1).1 h
theorem Eu {T0 : Addr} (hfr : A.frames = some (env :: outer)) (hl : s.heap.FunFrames base (env :: outer)) (hf : env.frame = some L) (he : s.heap.get? e = some oe) (hd : oe.data = .fields vs) (h1 : vs[1]? = some (.ref T0)) (hT : zO s.heap T0) (hne : T0 ≠ e)
  (h : ∀ h' T, vX (frs (env :: outer)) e (some T0) s.heap h' -> h'.get? e = some { oe with data := .fields (vs.setIfInBounds 1 (.ref T)) } -> s.heap.objs.size <= T -> zO h' T -> Q () { s with heap := h' }) :
  wpAny M A (noteFrame (.ref e) env) (fun _ s' => wpAny M A (setFlight (.ref e) none) Q E s') E s := by
 obtain ⟨oT, ts, hT, hdT, h3⟩ := hT
 unfold noteFrame
 simp only [hf]
 refine wpAny_bind (wpAny_field he hd h1 ?_)
 rw [if_pos (show (Value.ref T0 != Value.none) = true from by simp)]
 refine wpAny_bind (wpAny_field hT hdT h3 ?_)
 rw [if_neg (show ¬ ((Value.none == rawInt L) = true) from by simp [rawInt])]
 refine wpAny_bind (wpAny_setField hT hdT (Array.getElem?_eq_some_iff.mp h3).1 ?_)
 have Tf : T0 ∉ frs (env :: outer) := fun hm => by
  obtain ⟨_, o, ho, hn⟩ := hl.mem hm
  rw [hT] at ho; cases ho; exact hn ts hdT
 have t1 := Heap.get?_update_self (h := s.heap) (Obj.mapFields (·.setIfInBounds 3 Value.none)) hT (by rw [Hh hdT]; exact tO rfl)
 have o1 : ∀ b, b ≠ T0 -> (s.heap.update T0 (Obj.mapFields (·.setIfInBounds 3 Value.none))).get? b = s.heap.get? b := fun b hb => Heap.get?_update_other _ _ (Ne.symm hb)
 have z1 : (s.heap.update T0 (Obj.mapFields (·.setIfInBounds 3 Value.none))).objs.size = s.heap.objs.size := by cases s.heap; simp [Heap.update]
 generalize s.heap.update T0 (Obj.mapFields (·.setIfInBounds 3 Value.none)) = g at t1 o1 z1
 refine CT (s := { s with heap := g }) hfr (hl.of_keeps fun b o q hn => ⟨o, (o1 b fun z => ?_).trans q, rfl⟩) hf ((o1 e (Ne.symm hne)).trans he) hd (Array.getElem?_eq_some_iff.mp h1).1 fun h' T N x hz tb => h h' T ⟨fun b o q hb hT0 hn => ?_, fun b o q hb hT0 => ?_, fun b o q => ?_, le_trans (le_of_eq z1.symm) N.size⟩ x (le_trans (le_of_eq z1.symm) hz) tb
 ·subst z; rw [hT] at q; cases q; exact hn ts hdT
 ·exact N.keep b o ((o1 b fun z => hT0 (by rw [z])).trans q) hb Z2 hn
 ·exact N.slot b o ((o1 b fun z => hT0 (by rw [z])).trans q) hb Z2
 ·by_cases z : b = T0
  ·subst z; exact N.there _ _ t1
  ·exact N.there _ _ ((o1 b z).trans q)
end
theorem G7 {P : Program} {w : World} {H : Hp} {h h' : Heap} {fr : List Addr} {x C : Addr} {dx old : Option Addr} (ok : HOk P w H h) (N : vX fr x old h h') (hx : H x = some (ExO false x C dx))
  (hx' : ∃ t0 a1 a2 a3 a4 a5, h'.get? x = some (bU C dx #[.ref t0, a1, a2, a3, a4, a5]) /\ (dx = none -> a2 = .none)) (hfr : ∀ b ∈ fr, H b = none) (hold : ∀ T, old = some T -> H T = none) : HOk P w H h' := fun a o e => by
 by_cases ha : a = x
 ·subst ha
  rw [hx] at e
  cases e
  obtain ⟨t0, a1, a2, a3, a4, a5, q, q2⟩ := hx'
  exact pG q ⟨fun z => (by cases z), q2⟩
 ·refine (ok a o e).stay (fun b u hb q => ?_) (fun _ q => q) fun _ _ q => q
  have hbn : ∃ v, H b = some v := by
   rcases hb with rfl | hb
   ·exact ⟨_, e⟩
   ·exact ⟨_, hb⟩
  obtain ⟨v, hv⟩ := hbn
  refine N.keep b u q (fun z => ?_) (fun z => ?_) (fun z => ?_)
  ·subst z
   rcases hb with z | hb
   ·exact ha z.symm
   ·rw [hx] at hb; cases hb
  ·have := hold b z.symm
   rw [hv] at this; cases this
  ·have := hfr b z
   rw [hv] at this; cases this
theorem HJ {fs fr : List Addr} {H0 H1 : Hp} {h0 h1 h2 : Heap} {x : Addr} {old : Option Addr} {o : HO} (u : Un fs [] H0 H1 h0 h1) (N : vX fr x old h1 h2) (hx : H1 x = some o)
  (hT : ∀ T, old = some T -> h0.objs.size <= T) (hfr : ∀ b ∈ fr, b ∈ fs \/ h0.objs.size <= b) : Un fs [] H0 H1 h0 h2 where
 keep := fun b ob q n hb he => by
  refine N.keep b ob (u.keep b ob q n hb he) (fun z => ?_) (fun z => ?_) (fun z => ?_)
  ·have := u.free b ob q n he
   rw [z, hx] at this; cases this
  ·exact absurd (Heap.lt_size q) (not_lt.mpr (hT b z.symm))
  ·rcases hfr b z with k | k
   ·exact hb k
   ·exact absurd (Heap.lt_size q) (not_lt.mpr k)
 slot := fun b ob q n hb he => by
  obtain ⟨sl, q1⟩ := u.slot b ob q n hb he
  obtain ⟨sl2, q2⟩ := N.slot b _ q1 (fun z => by have := u.free b ob q n he; rw [z, hx] at this; cases this) (fun z => absurd (Heap.lt_size q) (not_lt.mpr (hT b z.symm)))
  exact ⟨sl2, q2⟩
 free := u.free
 there := fun b ob q he => by
  obtain ⟨o', q1⟩ := u.there b ob q he
  exact N.there b o' q1
 tups := u.tups
 frzs := u.frzs
 tbls := u.tbls
def Fly (h : Heap) (x : Addr) (v : Value) : Prop := ∃ oe vs, h.get? x = some oe /\ oe.data = .fields vs /\ vs[1]? = some v
def CX1 (P : Program) (w : World) : CXT := fun outer H s E e s' => ∃ x C dx T H', e = .ref x /\ s'.os = s.os /\ AllBare s'.gens /\ Un (frs outer) [] H H' s.heap s'.heap /\ HOk P w H' s'.heap /\ H' x = some (ExO false x C dx) /\
 Fly s'.heap x (.ref T) /\ zO s'.heap T /\ H' T = none /\ s.heap.objs.size <= T /\ E e none H'
section
variable {X : Cx} {pins : OP} {σ : St} {H H1 : Hp} {s s1 : Shared} {x C : Addr} {dx : Option Addr}
structure Rz (X : Cx) (pins : OP) (σ : St) (H1 : Hp) (s1 : Shared) (H : Hp) (x C : Addr) (dx : Option Addr) (T : Addr) (s : Shared) : Prop where
 pre : Inv X pins σ H1 s1
 os : s.os = s1.os
 bare : AllBare s.gens
 un : Un (frs X.stack) [] H1 H s1.heap s.heap
 hok : HOk X.prog X.w H s.heap
 at_ : H x = some (ExO false x C dx)
 fly : Fly s.heap x (.ref T)
 tb : zO s.heap T
 off : H T = none
 new : s1.heap.objs.size <= T
theorem Rz.inv {T : Addr} (r : Rz X pins σ H1 s1 H x C dx T s) : Inv X pins σ H s := r.pre.call' r.os r.un r.hok r.bare (fun b z => absurd z Z2)
theorem TQ {C : Addr} {dx : Option Addr} {t0 T : Addr} {a1 a2 a3 a4 a5 : Value} : ({ bU C dx #[.ref t0, a1, a2, a3, a4, a5] with data := .fields ((#[.ref t0, a1, a2, a3, a4, a5] : Array Value).setIfInBounds 1 (.ref T)) } : Obj) = bU C dx #[.ref t0, .ref T, a2, a3, a4, a5] := rfl
theorem Ky {old : Option Addr} {T : Addr} {h' : Heap} {t0 : Addr} {a2 a3 a4 a5 : Value} (hst : X.stack = X.env :: X.outer) (I : Inv X pins σ H1 s1) (os : s.os = s1.os) (bare : AllBare s.gens) (u : Un (frs X.stack) [] H1 H s1.heap s.heap) (hok : HOk X.prog X.w H s.heap) (hx : H x = some (ExO false x C dx)) (N : vX (frs (X.env :: X.outer)) x old s.heap h')
  (ex : h'.get? x = some (bU C dx #[.ref t0, .ref T, a2, a3, a4, a5])) (h2 : dx = none -> a2 = .none) (hT : s.heap.objs.size <= T) (hs : s1.heap.objs.size <= s.heap.objs.size) (tb : zO h' T) (hold : ∀ T0, old = some T0 -> H T0 = none /\ s1.heap.objs.size <= T0) : Rz X pins σ H1 s1 H x C dx T { s with heap := h' } where
 pre := I
 os := os
 bare := bare
 un := HJ u N hx (fun T0 e => (hold T0 e).2) fun b hb => .inl (by rw [hst]; exact hb)
 hok := by
  have fr : ∀ b ∈ frs (X.env :: X.outer), H b = none := fun b hb => by
   have hb : b ∈ frs X.stack := by rw [hst]; exact hb
   obtain ⟨_, o, ho, _⟩ := I.stack.mem hb
   exact u.free b o ho (I.stkFree b hb) Z2
  exact G7 hok N hx ⟨_, _, _, _, _, _, ex, h2⟩ fr fun T0 e => (hold T0 e).1
 at_ := hx
 fly := ⟨_, _, ex, rfl, rfl⟩
 tb := tb
 off := hok.fresh hT
 new := le_trans hs hT
theorem Gn {h : Heap} {t0 : Addr} {a1 a2 a3 a4 a5 v : Value} (e : h.get? x = some (bU C dx #[.ref t0, a1, a2, a3, a4, a5])) (hf : Fly h x v) : (#[.ref t0, a1, a2, a3, a4, a5] : Array Value)[1]? = some v := by
 obtain ⟨oe, vs, e2, hd, h1⟩ := hf
 rw [e] at e2
 cases e2
 cases (show Data.fields #[.ref t0, a1, a2, a3, a4, a5] = .fields vs from hd)
 exact h1
theorem tG {M : Model} {A : Around} {E : EV} {Q : Unit -> Shared -> Prop} (hA : A.frames = some X.stack) (hst : X.stack = X.env :: X.outer) (hfm : X.env.frame = some X.env.locals) (I : Inv X pins σ H1 s1) (os : s.os = s1.os) (bare : AllBare s.gens) (u : Un (frs X.stack) [] H1 H s1.heap s.heap) (hok : HOk X.prog X.w H s.heap)
  (hs : s1.heap.objs.size <= s.heap.objs.size) (hx : H x = some (ExO false x C dx)) (hf : Fly s.heap x .none \/ ∃ T0, Fly s.heap x (.ref T0) /\ zO s.heap T0 /\ H T0 = none /\ s1.heap.objs.size <= T0)
  (q : ∀ T s', Rz X pins σ H1 s1 H x C dx T s' -> Q () s') : wpAny M A (noteFrame (.ref x) X.env) (fun _ s' => wpAny M A (setFlight (.ref x) none) Q E s') E s := by
 obtain ⟨t0, a1, a2, a3, a4, a5, e, hfl⟩ := fO hok hx
 have fun2 : s.heap.FunFrames X.base (X.env :: X.outer) := by
  have f := (I.call' os u hok bare (fun b z => absurd z Z2)).stack
  rwa [hst] at f
 rcases hf with hf | ⟨T0, hf, hT0, hn, hz⟩
 ·refine Bv (hA.trans (congrArg some hst)) fun2 hfm e rfl (Gn e hf) fun h' T N ex hT tb => q T _ ?_
  exact Ky hst I os bare u hok hx N (ex.trans (congrArg some TQ)) hfl.2 hT hs tb fun T0 z => by cases z
 ·refine Eu (hA.trans (congrArg some hst)) fun2 hfm e rfl (Gn e hf) hT0 (aQ hx hn).symm fun h' T N ex hT tb => q T _ ?_
  exact Ky hst I os bare u hok hx N (ex.trans (congrArg some TQ)) hfl.2 hT hs tb fun T1 z => by cases z; exact ⟨hn, hz⟩
theorem Rz.flight {M : Model} {A : Around} {E : EV} {Q : Unit -> Shared -> Prop} {T : Addr} (r : Rz X pins σ H1 s1 H x C dx T s) (q : ∀ s', Rz X pins σ H1 s1 H x C dx T s' -> Q () s') : wpAny M A (setFlight (.ref x) none) Q E s := by
 obtain ⟨oe, vs, e, hd, h1⟩ := id r.fly
 obtain ⟨oT, ts, hT, hdT, h3⟩ := id r.tb
 have hne : x ≠ T := aQ r.at_ r.off
 refine wpAny_setFlight_none e hd h1 hT hdT (Array.getElem?_eq_some_iff.mp h3).1 (q _ ?_)
 have t1 := Heap.get?_update_self (h := s.heap) (Obj.mapFields (·.setIfInBounds 3 Value.none)) hT (by rw [Hh hdT]; exact tO rfl)
 have o1 : ∀ b, b ≠ T -> (s.heap.update T (Obj.mapFields (·.setIfInBounds 3 Value.none))).get? b = s.heap.get? b := fun b hb => Heap.get?_update_other _ _ (Ne.symm hb)
 rw [Hh hdT] at t1
 have hs3 := (Array.getElem?_eq_some_iff.mp h3).1
 generalize s.heap.update T (Obj.mapFields (·.setIfInBounds 3 Value.none)) = g at t1 o1
 have nt : ∀ b o, s1.heap.get? b = some o -> b ≠ T := fun b o z => ne_of_lt (lt_of_lt_of_le (Heap.lt_size z) r.new)
 refine ⟨r.pre, r.os, r.bare, ⟨fun b o z n hb he => (o1 b (nt b o z)).trans (r.un.keep b o z n hb he), fun b o z n hb he => ?_, r.un.free, fun b o z he => ?_, r.un.tups, r.un.frzs, r.un.tbls⟩, fun a o z => ?_, r.at_, ⟨oe, vs, (o1 x hne).trans e, hd, h1⟩, ⟨_, _, t1, rfl, by simp [hs3]⟩, r.off, r.new⟩
 ·obtain ⟨sl, w⟩ := r.un.slot b o z n hb he
  exact ⟨sl, (o1 b (nt b o z)).trans w⟩
 ·obtain ⟨o', w⟩ := r.un.there b o z he
  exact ⟨o', (o1 b (nt b o z)).trans w⟩
 ·refine (r.hok a o z).stay (fun b u hb w => ?_) (fun _ w => w) fun _ _ w => w
  refine (o1 b fun k => ?_).trans w
  subst k
  rcases hb with rfl | hb
  ·have := r.off; rw [z] at this; cases this
  ·have := r.off; rw [hb] at this; cases this
end
section
variable {P : Program} {w : World} {K : Frag} {mg : MG} {base : Heap} {N : List Str} {qual : Str} {scope : Scope} {f : Addr} {cd : Value} {A : Around} {outer : List Env} {s : Shared} {H : Hp} {E E1 : XK}
theorem leave1 {pins : OP} {σ : St} {H1 : Hp} {s1 : Shared} {x C : Addr} {dx : Option Addr} (I : Inv (nj (CX1 P w) P w K mg base N qual scope f cd A outer s H E) pins σ H1 s1) (hx : H1 x = some (ExO false x C dx)) (hf : Fly s1.heap x .none) (q : E (.ref x) none H1) :
  (nj (CX1 P w) P w K mg base N qual scope f cd A outer s H E).xe (.ref x) s1 := by
 show wpAny _ _ (leaving _ _) _ _ _
 unfold leaving
 refine wpAny_bind (tG (X := nj (CX1 P w) P w K mg base N qual scope f cd A outer s H E) I.ok.frames rfl rfl I rfl I.bare Un.refl I.hok (le_refl _) hx (.inl hf) fun T s' r => ?_)
 exact ⟨x, C, dx, T, H1, rfl, r.inv.os, r.bare, r.inv.base, r.hok, hx, r.fly, r.tb, r.off, le_trans I.sz r.new, q⟩
theorem Vb (hE : ∀ e H', E1 e none H' -> E e none H') : nA (CX1 P w) (nj (CX1 P w) P w K mg base N qual scope f cd A outer s H E) E1 := fun pins σ H1 s1 e s' I h => by
 obtain ⟨x, C, dx, T, H', rfl, os, bare, un, hok, hx, fl, tb, hn, hz, q⟩ := h
 show wpAny _ _ (leaving _ _) _ _ _
 unfold leaving
 have hs : s1.heap.objs.size <= s'.heap.objs.size := le_trans hz (le_of_lt (by obtain ⟨_, _, e, _⟩ := tb; exact Heap.lt_size e))
 refine wpAny_bind (tG (X := nj (CX1 P w) P w K mg base N qual scope f cd A outer s H E) I.ok.frames rfl rfl I os bare un hok hs hx (.inr ⟨T, fl, tb, hn, hz⟩) fun T2 s2 r => ?_)
 exact ⟨x, C, dx, T2, H', rfl, r.inv.os, r.bare, r.inv.base, r.hok, hx, r.fly, r.tb, r.off, le_trans I.sz r.new, hE _ _ q⟩
end
structure ph (X : Cx) (W : St -> XK) : Prop where
 made : ∀ {pins : OP} {σ : St} {H : Hp} {s : Shared} {x C : Addr} {dx : Option Addr}, Inv X pins σ H s -> H x = some (ExO false x C dx) -> Fly s.heap x .none -> W σ (.ref x) none H -> X.xe (.ref x) s
 came : ∀ {pins : OP} {σ : St} {H : Hp} {s s' : Shared} {e : Value}, Inv X pins σ H s -> CX1 X.prog X.w X.stack H s (W σ) e s' -> X.xe e s'
theorem bV {P : Program} {w : World} {K : Frag} {mg : MG} {base : Heap} {N : List Str} {qual : Str} {scope : Scope} {f : Addr} {cd : Value} {A : Around} {outer : List Env} {s : Shared} {H : Hp} {E : XK} :
  ph (nj (CX1 P w) P w K mg base N qual scope f cd A outer s H E) (fun _ => E) :=
 ⟨fun I hx hf q => leave1 I hx hf q, fun {pins σ H1 s1 s' e} I h => Vb (fun _ _ q => q) pins σ H1 s1 e s' I h⟩
section
variable {X : Cx} {W : St -> XK} {k : Nat} {f C : Addr} {fd : FuncData} {ps : List Str} {sp : Sp} {x : Str} {st : Stmt} {p pos rpos : Pos} {e : Expr} {es : List Expr} {t : TA}
def LR (sp : Sp) (W : St -> XK) (t : TA) : TE := fun σ H Q => t σ H fun vs H1 => sp vs H1 Q (W σ)
theorem Jm {pins : OP} {σ : St} {H : Hp} {s : Shared} {Q : VK} {us : List Value} {vs : List V} (hw : ph X W) (F : aO X.prog X.w X.K X.mg X.base (CX1 X.prog X.w) k f fd ps sp) (hr : bh k X.A) (hb : Binds X.K fd ps [])
  (I : Inv X pins σ H s) (r : Vals vs us) (h : sp vs H Q (W σ)) : wpAny (model X.prog X.w) X.A (call (.ref f) us) (EP X pins σ Q) X.xe s := by
 have hl : (us ++ []).length = ps.length := by rw [append_nil, <- r.length]; exact F.len _ _ _ _ h
 refine wpAny_call (codeAny_mono (F.run X.A X.stack s H ⟨us, []⟩ (us ++ []) vs Q (W σ) hr I.env0 (hb s us I.kIn hl) (by rw [append_nil]; exact r) h) fun r s' hq => ?_)
 cases r with
 | error e => exact hw.came I hq
 | ok fl =>
  cases fl with
  | ret u => exact I.after hq
  | next => exact False.elim hq
  | brk => exact False.elim hq
  | cont => exact False.elim hq
theorem f9 (A : FnAt X.K X.mg x st ps f fd) (F : aO X.prog X.w X.K X.mg X.base (CX1 X.prog X.w) k f fd ps sp) (hr : bh k X.A) (hw : ph X W) (ha : PA X (e :: es) t) (hg : Gl X x := by rfl) (hdb : (x == ("__debug__" : Str)) = false := by decide) (he : starEach (e :: es) X.env = (false, eval e X.env) :: starEach es X.env := by rfl) (hpl : (backTo pos (starEach es X.env)).any (·.1) = false := by rfl) :
  PE X (.Call (.Name x p) (e :: es) [] pos) (LR sp W t) := by
 intro pins s σ H Q I h
 refine wpAny_Call_Name_kw (fj I hg A.m ?_ hdb)
 refine callWith_K (h₀ := X.base) I.ok.mod.kin A.F.kp (thn (ha pos pins s σ H _ I h) fun us s1 ⟨vs, H1, I1, r, q⟩ => ⟨I1.kIn, ?_⟩) he hpl
 exact Jm hw F hr A.b I1 r q
end
section
variable {P : Program} {w : World} {K : Frag} {mg : MG} {base : Heap}
theorem Fun.okX {x qual : Str} {st : Stmt} {f : Addr} {fd : FuncData} {N ps : List Str} {k : Nat} {sp : Sp} (F : Fun K x qual st f fd) (S : aK N ps (aC st)) (len : ∀ vs H Q E, sp vs H Q E -> vs.length = ps.length)
  (hbody : ∀ (cdv : Value) (A : Around) (outer : List Env) (s : Shared) (H : Hp) (vs : List V) (Q : VK) (E : XK), bh k (A.deeper (envOfC qual (aC st) s.heap.objs.size f cdv)) -> sp vs H Q E ->
   ∃ t, PSs (nj (CX1 P w) P w K mg base N qual (aC st) f cdv A outer s H E) (cu st) t /\ t { nx := fun _ H' => Q .non H', rt := Q } (start N vs) H) : aO P w K mg base (CX1 P w) (k + 1) f fd ps sp := by
 obtain ⟨oc, od, kV, doc, pm, an, cdv, ct, osl, rfl, lk, hcd⟩ := F.ex
 exact Kr lk hcd S len fun A outer s H vs Q E hr h => hbody cdv A outer s H vs Q E hr h
end
section
variable {M : Model} {A : Around} {E : EV} {s : Shared} {env : Env}
theorem Dz {x : Sem Value} {Q : Flow -> Shared -> Prop} (hh : A.handled = none)
  (h : wpAny M A x (fun v s1 => ∃ e C dx vs, ∃ nm q N bs bm hdct sn sub ab col dd k0 k1 k2 k3 k5 nid, v = .ref e /\ s1.heap.get? C = some (excClassObj nm q C N bs bm hdct sn sub ab col dd k0 k1 k2 k3 k5 nid) /\ bm.contains (.type "BaseException") = true /\ s1.heap.get? e = some (bU C dx vs) /\ vs[1]? = some .none /\ E (.ref e) s1) E s) :
  wpAny M A (raiseStmt env (some x) none) Q E s := by
 unfold raiseStmt
 refine wpAny_bind (thn h fun v s1 hz => ?_)
 obtain ⟨e, C, dx, vs, nm, q, N, bs, bm, hdct, sn, sub, ab, col, dd, k0, k1, k2, k3, k5, nid, rfl, hC, hb, he, h1, hE⟩ := hz
 obtain ⟨hp, g, d, t, os⟩ := s1
 refine wpAny_bind (wpAny_pure ?_)
 have nt : ∀ {Q2 : Bool -> Shared -> Prop}, Q2 false ⟨hp, g, d, t, os⟩ -> wpAny M A (isType (.ref e)) Q2 E ⟨hp, g, d, t, os⟩ := fun {Q2} h2 => by
  unfold isType loadHead
  exact wpAny_bind (wpAny_loadPart he (wpAny_pure h2))
 refine wpAny_bind (wpAny_holding ?_)
 unfold excFromValue isExcClass isInstance
 refine wpAny_bind (wpAny_bind (nt ?_))
 rw [if_neg Z0]
 refine wpAny_pure ?_
 rw [if_neg Z0]
 refine wpAny_bind (wpAny_bind (wpAny_typeOf_ref he (wpAny_isSubtype_exc hC ?_)))
 rw [contains_cons, hb, Bool.or_true, if_pos rfl]
 refine wpAny_pure ?_
 dsimp only
 refine wpAny_bind (nt ?_)
 rw [if_neg Z0]
 unfold raisedInstance
 refine wpAny_bind (wpAny_bind (wpAny_typeOf_ref he (wpAny_bind (wpAny_typeOf_ref hC ?_))))
 rw [if_pos (show ((excClassObj nm q C N bs bm hdct sn sub ab col dd k0 k1 k2 k3 k5 nid).cls == Value.type "type") = true from by rfl)]
 refine wpAny_pure ?_
 unfold setFlight
 refine wpAny_bind (wpAny_bind (wpAny_field he rfl h1 ?_))
 rw [if_neg Z0]
 exact wpAny_pure (wpAny_raiseNew_none hh hE)
end
theorem nZ {h : Heap} {bm : List Value} (T : OwnTail h cJ bm) : bm.contains (.type "BaseException") = true := by
 induction T with
 | base => rfl
 | own _ _ _ _ ih => rw [contains_cons, ih, Bool.or_true]
section
variable {X : Cx} {W : St -> XK} {pos : Pos} {e : Expr} {te : TE}
theorem Inv.flown {pins : OP} {σ : St} {H : Hp} {s : Shared} {x C : Addr} {dx : Option Addr} {fl : Bool} (I : Inv X pins σ H s) (hx : H x = some (ExO fl x C dx)) : Inv X pins σ (upd H x (ExO false x C dx)) s := by
 obtain ⟨t0, a1, a2, a3, a4, a5, e, hfl⟩ := fO I.hok hx
 exact I.write (x := x) (e := x) (o := ExO false x C dx) (t' := s.toks) (h' := s.heap) (by rw [hx]; exact True.intro) (.inl rfl) (fun b o hb q => q) ⟨_, e⟩ (pG e ⟨fun z => (by cases z), hfl.2⟩)
def KH (K : Frag) (W : St -> XK) (te : TE) : TS := fun _ σ H => te σ H fun v H1 => ∃ x C dx, v = .ref x /\ H1 x = some (ExO true x C dx) /\ ExC K C /\ W σ (.ref x) none (upd H1 x (ExO false x C dx))
theorem jq (hw : ph X W) (hc : X.calm = true) (he : PE X e te) : QS X (.Raise (some e) none pos) (KH X.K W te) := ⟨by
 intro pins s σ H D I h
 rw [arm_exec_Raise]
 refine wpAny_bind (wpAny_standAt ?_)
 refine Dz (x := do let v <- eval e X.env; standAt pos; pure v) (I.ok.hd hc) (wpAny_bind (thn (he pins s σ H _ I h) fun u s1 hz => ?_))
 obtain ⟨vv, H1, I1, r, x, C, dx, rfl, hx, c, q⟩ := hz
 obtain rfl : u = Value.ref x := r
 obtain ⟨nm, q', N, bs, bm, hdct, sn, sub, ab, col, dd, k0, k1, k2, k3, k5, hcl, hT⟩ := c
 obtain ⟨t0, a1, a2, a3, a4, a5, e1, hn⟩ := fO I1.hok hx
 have h1 : (#[.ref t0, a1, a2, a3, a4, a5] : Array Value)[1]? = some .none := by rw [hn.1 rfl]; rfl
 refine wpAny_bind (wpAny_standAt (wpAny_pure ⟨x, C, dx, _, nm, q', N, bs, bm, hdct, sn, sub, ab, col, dd, k0, k1, k2, k3, k5, _, rfl, I1.kIn _ _ hcl, nZ (hT _ I1.kIn), e1, h1, ?_⟩))
 exact hw.made (I1.flown hx) ao ⟨_, _, e1, rfl, h1⟩ q⟩
end
theorem sub_tt : isSubtype (.type "type") (.type "tuple") = pure false := by kernel_rfl
section
variable {M : Model} {A : Around} {E : EV} {s : Shared}
theorem v8 {x C D : Addr} {oe : Obj} {nm q nm' q' : Str} {N N' : Addr} {bs bm bs' bm' : List Value} {hdct hdct' : Bool} {sn sn' : List Str} {sub sub' : List Value} {ab ab' : Bool} {col col' : Option Bool} {dd dd' : Option Addr} {k0 k1 k2 k3 k5 k0' k1' k2' k3' k5' : Option Value} {nid nid' : String} {Q : Bool -> Shared -> Prop}
  (hC : s.heap.get? C = some (excClassObj nm q C N bs bm hdct sn sub ab col dd k0 k1 k2 k3 k5 nid)) (hD : s.heap.get? D = some (excClassObj nm' q' D N' bs' bm' hdct' sn' sub' ab' col' dd' k0' k1' k2' k3' k5' nid'))
  (he : s.heap.get? x = some oe) (hc : oe.cls = .ref C) (hb : bm'.contains (.type "BaseException") = true) (h : Q ((Value.ref C :: bm).contains (.ref D)) s) : wpAny M A (excMatches (.ref x) (.ref D)) Q E s := by
 obtain ⟨hh, g, d, t, os⟩ := s
 unfold excMatches isInstance
 refine wpAny_bind (wpAny_bind (wpAny_typeOf_ref hD ?_))
 show wpAny M A (isSubtype (.type "type") (.type "tuple")) _ E _
 rw [sub_tt]
 refine wpAny_pure ?_
 rw [if_neg Z0]
 refine wpAny_bind (wpAny_pure ?_)
 have exc : ∀ {Q2 : Bool -> Shared -> Prop}, Q2 true ⟨hh, g, d, t, os⟩ -> wpAny M A (isExcClass (.ref D)) Q2 E ⟨hh, g, d, t, os⟩ := fun {Q2} h2 => by
  unfold isExcClass isType loadHead
  refine wpAny_bind (wpAny_bind (wpAny_loadPart hD (wpAny_pure ?_)))
  rw [if_pos rfl]
  refine wpAny_isSubtype_exc hD ?_
  rw [contains_cons, hb, Bool.or_true]
  exact h2
 dsimp only
 rw [forIn_cons]
 refine wpAny_bind (wpAny_bind (wpAny_bind (exc ?_)))
 rw [if_neg Z0]
 refine wpAny_pure ?_
 dsimp only
 rw [List.forIn_nil]
 refine wpAny_pure ?_
 refine wpAny_bind (wpAny_typeOf_ref he ?_)
 rw [hc, forIn_cons]
 refine wpAny_bind (wpAny_bind (wpAny_bind (wpAny_isSubtype_exc hC ?_)))
 by_cases k : (Value.ref C :: bm).contains (.ref D) = true
 ·rw [if_pos k]
  rw [k] at h
  exact wpAny_pure (wpAny_pure (wpAny_pure h))
 ·have k2 : (Value.ref C :: bm).contains (.ref D) = false := by simpa using k
  rw [if_neg k]
  rw [k2] at h
  refine wpAny_pure ?_
  dsimp only
  rw [List.forIn_nil]
  exact wpAny_pure (wpAny_pure h)
end
section
variable {X : Cx} {pins : OP} {σ : St} {H : Hp} {s : Shared}
theorem KN {M : Model} {A : Around} {E : EV} {i : Nat} {x : Str} {v : V} {Q : Unit -> Shared -> Prop} (I : Inv X pins σ H s) (hN : X.N.Nodup) (hi : X.N[i]? = some x) (hk : X.env.scope.names.lookup x = some .local) (hσ : σ[i]? = some (some v))
  (h : ∀ s', Inv X pins (σ.set i none) H s' -> Q () s') : wpAny M A (unbindName X.env x) Q E s := by
 obtain ⟨m, hn, hl⟩ := id I.loc
 have hcls : (X.env.scope.kind == .class || (X.env.scope.kind == .module && X.env.locals != X.env.globals)) = false := by rw [I.ok.kind]; rfl
 have hiσ : i < σ.length := by rw [I.len]; exact (List.getElem?_eq_some_iff.mp hi).1
 have cne := I.cne
 obtain ⟨u, _, hu⟩ := hl i x v hi hσ (.inl hk)
 have hm : m x = some u := by
  rcases hu with ⟨_, z⟩ | ⟨z, _⟩
  ·exact z
  ·have hk2 : X.env.kindOf x = some .local := hk
   rw [hk2] at z
   rcases z with z | z <;> cases z
 obtain ⟨oL, _, _, hoL, _⟩ := id hn
 refine wpAny_unbindName_local hk hn hm hcls (fun h' w hn' hs => ?_)
 refine h _ ⟨I.ok, I.os, I.bare, ⟨fun b o e n hb hx => ?_, fun b o e n hb hx => ?_, I.base.free, fun b o e hx => ?_, I.base.tups, I.base.frzs, I.base.tbls⟩, ⟨_, hn', fun j y v' e1 e2 e3 => ?_⟩, fun y c e => ?_, I.free, I.freeC, fun p hp => ?_, fun b ob e => ?_, by simpa using I.len⟩
 ·exact (hs.2 b (ne_of_lt (lt_of_lt_of_le (Heap.lt_size e) I.ok.above))).trans (I.base.keep b o e n hb hx)
 ·obtain ⟨sl, e1⟩ := I.base.slot b o e n hb hx
  exact ⟨sl, (hs.2 b (ne_of_lt (lt_of_lt_of_le (Heap.lt_size e) I.ok.above))).trans e1⟩
 ·obtain ⟨o', e1⟩ := I.base.there b o e hx
  exact ⟨o', (hs.2 b (ne_of_lt (lt_of_lt_of_le (Heap.lt_size e) I.ok.above))).trans e1⟩
 ·by_cases hj : j = i
  ·subst hj
   rw [List.getElem?_set_self hiσ] at e2
   cases e2
  ·rw [List.getElem?_set_ne (Ne.symm hj)] at e2
   obtain ⟨u', r', q⟩ := hl j y v' e1 e2 e3
   refine ⟨u', r', ?_⟩
   rcases q with ⟨k, e⟩ | ⟨k, c, e, z⟩
   ·refine .inl ⟨k, ?_⟩
    have : y ≠ x := fun e => hj (uJ hN e1 (e ▸ hi))
    simp [this, e]
   ·exact .inr ⟨k, c, e, z.sameBut hs (cne y c e)⟩
 ·obtain ⟨w', z⟩ := I.cell y c e
  exact ⟨w', z.sameBut hs (cne y c e)⟩
 ·obtain ⟨e, n, ne, nf, d⟩ := I.pin p hp
  exact ⟨(hs.2 p.1 ne).trans e, n, ne, nf, d⟩
 ·refine (I.hok b ob e).stay (fun c w' hc q => (hs.2 c ?_).trans q) (fun _ q => q) fun _ _ q => q
  rintro rfl
  rcases hc with rfl | hc
  ·rw [I.free] at e; cases e
  ·rw [I.free] at hc; cases hc
theorem sY {M : Model} {A : Around} {E : EV} {i : Nat} {x : Str} {pos : Pos} {Q : Unit -> Shared -> Prop} (I : Inv X pins σ H s) (hN : X.N.Nodup) (hi : X.N[i]? = some x) (hk : X.env.scope.names.lookup x = some .local)
  (h : ∀ s', Inv X pins (σ.set i none) H s' -> Q () s') : wpAny M A (do bindName X.env x Value.none; unbindBehindTheSuite X.env x pos) Q E s := by
 have hiσ : i < σ.length := by rw [I.len]; exact (List.getElem?_eq_some_iff.mp hi).1
 refine wpAny_bind (wpAny_bindName (pI I hN hi (.inl hk) (v := V.non) rfl (fun s' I' => ?_) (.inr hk)))
 unfold unbindBehindTheSuite
 refine wpAny_onRaise (KN I' hN hi hk (List.getElem?_set_self hiσ) fun s2 I2 => ?_)
 rw [set_set] at I2
 exact h s2 I2
end
abbrev Cx.tryc (X : Cx) (pins : OP) (E : EV) : Cx := { X with xe := E, pn := X.pn ++ pins }
abbrev Cx.hand (X : Cx) (x : Addr) (pins : OP) (E : EV) : Cx := { X with A := X.A.mark (some (.ref x)), calm := false, xe := E, pn := X.pn ++ pins }
section
variable {X : Cx} {pins pins' : OP} {σ : St} {H : Hp} {s : Shared} {E : EV} {x : Addr}
theorem Inv.tryc (I : Inv X pins σ H s) : Inv (X.tryc pins E) [] σ H s :=
 ⟨⟨I.ok.mod, I.ok.kind, I.ok.glob, I.ok.blt, I.ok.above, I.ok.inj, I.ok.has, I.ok.cab, I.ok.hd, I.ok.frames, I.ok.stk, I.ok.exf, I.ok.bs, I.ok.bsz, I.ok.noex, I.ok.exfs, I.ok.funs, I.ok.frf⟩, I.os, I.bare, I.base, I.loc, I.cell, I.free, I.freeC, fun p hp => I.pin p (by simpa using hp), I.hok, I.len⟩
theorem Inv.untry (I : Inv (X.tryc pins E) pins' σ H s) : Inv X pins σ H s :=
 ⟨⟨I.ok.mod, I.ok.kind, I.ok.glob, I.ok.blt, I.ok.above, I.ok.inj, I.ok.has, I.ok.cab, I.ok.hd, I.ok.frames, I.ok.stk, I.ok.exf, I.ok.bs, I.ok.bsz, I.ok.noex, I.ok.exfs, I.ok.funs, I.ok.frf⟩, I.os, I.bare, I.base, I.loc, I.cell, I.free, I.freeC, fun p hp => I.pin p (mem_append_left _ hp), I.hok, I.len⟩
theorem Inv.hand (I : Inv X pins σ H s) : Inv (X.hand x pins E) [] σ H s :=
 ⟨⟨I.ok.mod, I.ok.kind, I.ok.glob, I.ok.blt, I.ok.above, I.ok.inj, I.ok.has, I.ok.cab, (fun z => by cases z), I.ok.frames, I.ok.stk, I.ok.exf, I.ok.bs, I.ok.bsz, I.ok.noex, I.ok.exfs, I.ok.funs, I.ok.frf⟩, I.os, I.bare, I.base, I.loc, I.cell, I.free, I.freeC, fun p hp => I.pin p (by simpa using hp), I.hok, I.len⟩
theorem Inv.unhand (ok : X.Ok) (I : Inv (X.hand x pins E) pins' σ H s) : Inv X pins σ H s :=
 ⟨ok, I.os, I.bare, I.base, I.loc, I.cell, I.free, I.freeC, fun p hp => I.pin p (mem_append_left _ hp), I.hok, I.len⟩
end
def Sub (K : Frag) (C D : Addr) : Prop := ∃ nm q N bs bm hdct sn sub ab col dd k0 k1 k2 k3 k5 nid, K.lookup C = some (excClassObj nm q C N bs bm hdct sn sub ab col dd k0 k1 k2 k3 k5 nid) /\ (Value.ref C :: bm).contains (.ref D) = true
def Ends.off (En : Ends) (i : Nat) : Ends := { nx := fun σ H => En.nx (σ.set i none) H, rt := En.rt, bk := fun σ H => En.bk (σ.set i none) H, ct := fun σ H => En.ct (σ.set i none) H }
section
variable {X : Cx} {pins : OP} {σ : St} {H0 H1 : Hp} {s0 s2 : Shared} {x C D T : Addr} {dx : Option Addr} {cx n : Str} {i : Nat} {np hpos pos : Pos} {b₀ : Stmt} {suite body orelse : List Stmt} {rest : List ExceptHandler} {ts to : TS} {En : Ends} {E : EV}
theorem Rz.as {C2 : Addr} {dx2 : Option Addr} (r : Rz X pins σ H0 s0 H1 x C dx T s2) (h : H1 x = some (ExO false x C2 dx2)) : Rz X pins σ H0 s0 H1 x C2 dx2 T s2 := ⟨r.pre, r.os, r.bare, r.un, r.hok, h, r.fly, r.tb, r.off, r.new⟩
theorem Ig (r : Rz X pins σ H0 s0 H1 x C dx T s2) (sub : Sub X.K C D) (exD : ExC X.K D) (hg : Gl X cx) (hm : X.mg cx = some (.ref D)) (hdb : (cx == ("__debug__" : Str)) = false) (hN : X.N.Nodup) (hi : X.N[i]? = some n) (hk : X.env.scope.names.lookup n = some .local)
  (hs : QSs (X.hand x pins fun _ _ => False) (b₀ :: suite) ts) (q : ts (En.off i) (σ.set i (some (.ref x))) H1) :
  wpAny (model X.prog X.w) X.A (handleBy (.ref x) X.env (.ExceptHandler (some (.Name cx np)) (some n) (b₀ :: suite) hpos :: rest)) (SP X pins En) E s2 := by
 have Ih := r.inv.hand (x := x) (E := fun _ _ => False)
 refine wpAny_handleBy_cons (codeAny_handlers_test (fj Ih hg hm ?_ hdb)) Z7
 obtain ⟨nm, q', N, bs, bm, hdct, sn, sb, ab, col, dd, k0, k1, k2, k3, k5, hcl, hT⟩ := exD
 obtain ⟨nm2, q2, N2, bs2, bm2, hdct2, sn2, sb2, ab2, col2, dd2, j0, j1, j2, j3, j5, nid, hcl2, hcon⟩ := sub
 obtain ⟨t0, a1, a2, a3, a4, a5, e, _⟩ := fO r.hok r.at_
 refine v8 (r.inv.kIn _ _ hcl2) (r.inv.kIn _ _ hcl) e rfl (nZ (hT _ r.inv.kIn)) ?_
 rw [hcon]
 show codeAny _ _ (Code.handlers _ [ExceptHandler.ExceptHandler none (some n) (b₀ :: suite) hpos] _) _ _
 refine codeAny_handlers_suite_as (r.flight fun s3 r3 => ?_)
 refine pI (X := X.hand x pins fun _ _ => False) (pins := []) r3.inv.hand hN hi (.inl hk) (v := V.ref x) rfl (fun s4 I4 => ?_) (.inr hk)
 refine wpAny_mono (hs.h [] s4 _ _ _ I4 q) (fun f s5 q5 => ?_) (fun e s5 z => z.elim)
 cases f with
 | next => obtain ⟨σ', H', I', q'⟩ := q5; exact sY (I'.unhand r.inv.ok) hN hi hk fun s6 I6 => ⟨_, _, I6, q'⟩
 | brk => obtain ⟨σ', H', I', q'⟩ := q5; exact sY (I'.unhand r.inv.ok) hN hi hk fun s6 I6 => ⟨_, _, I6, q'⟩
 | cont => obtain ⟨σ', H', I', q'⟩ := q5; exact sY (I'.unhand r.inv.ok) hN hi hk fun s6 I6 => ⟨_, _, I6, q'⟩
 | ret u => obtain ⟨v, σ', H', I', rv, q'⟩ := q5; exact sY (I'.unhand r.inv.ok) hN hi hk fun s6 I6 => ⟨v, _, _, I6, rv, q'⟩
abbrev uC (X : Cx) (pins : OP) (hs : List ExceptHandler) (En : Ends) : Value -> Shared -> Prop := fun e s1 => wpAny (model X.prog X.w) X.A (noteFrame e X.env) (fun _ s2 => wpAny (model X.prog X.w) X.A (setFlight e none) (fun _ s3 => wpAny (model X.prog X.w) X.A (handleBy e X.env hs) (SP X pins En) X.xe s3) X.xe s2) X.xe s1
theorem pK {hs : List ExceptHandler} {W : St -> XK} (hst : X.stack = X.env :: X.outer) (hfm : X.env.frame = some X.env.locals)
  (h : ∀ {σ : St} {H0 H1 : Hp} {s0 s2 : Shared} {x C T : Addr} {dx : Option Addr}, Rz X pins σ H0 s0 H1 x C dx T s2 -> W σ (.ref x) none H1 -> wpAny (model X.prog X.w) X.A (handleBy (.ref x) X.env hs) (SP X pins En) X.xe s2) : ph (X.tryc pins (uC X pins hs En)) W where
 made := fun {pins' σ H s x C dx} I hx hf q => tG (X := X) I.ok.frames hst hfm I.untry rfl I.bare Un.refl I.hok (le_refl _) hx (.inl hf) fun T s' r => h r q
 came := fun {pins' σ H s s' e} I z => by
  obtain ⟨x, C, dx, T, H', rfl, os, bare, un, hok, hx, fl, tb, hn, hz, q⟩ := z
  have hs : s.heap.objs.size <= s'.heap.objs.size := le_trans hz (le_of_lt (by obtain ⟨_, _, e, _⟩ := tb; exact Heap.lt_size e))
  exact tG (X := X) I.ok.frames hst hfm I.untry os bare un hok hs hx (.inr ⟨T, fl, tb, hn, hz⟩) fun T2 s2 r => h r q
def Ly (K : Frag) (D : Addr) (i : Nat) (tb : (St -> XK) -> TS) (to ts : TS) : TS := fun En σ H =>
 tb (fun σ1 e _ H1 => ∃ x C dx, e = .ref x /\ H1 x = some (ExO false x C dx) /\ Sub K C D /\ ts (En.off i) (σ1.set i (some (.ref x))) H1) { En with nx := fun σ2 H2 => to En σ2 H2 } σ H
theorem GK {hs : List ExceptHandler} {h₀ : ExceptHandler} {W : St -> XK} {tb : (St -> XK) -> TS} {s : Shared} {H : Hp} (hw : ph (X.tryc pins (uC X pins (h₀ :: hs) En)) W) (hb : QSs (X.tryc pins (uC X pins (h₀ :: hs) En)) body (tb W)) (ho : QSs X orelse to) (I : Inv X pins σ H s)
  (h : tb W { En with nx := fun σ2 H2 => to En σ2 H2 } σ H) : wpAny (model X.prog X.w) X.A (exec (.Try body (h₀ :: hs) orelse [] pos) X.env) (SP X pins En) X.xe s := by
 refine wpAny_Try_except (wpAny_mono (hb.h [] s σ H _ I.tryc h) (fun f s1 q => ?_) (fun e s1 q => q))
 cases f with
 | next => obtain ⟨σ', H', I', q'⟩ := q; exact ho.h pins s1 σ' H' En I'.untry q'
 | brk => obtain ⟨σ', H', I', q'⟩ := q; exact ⟨_, _, I'.untry, q'⟩
 | cont => obtain ⟨σ', H', I', q'⟩ := q; exact ⟨_, _, I'.untry, q'⟩
 | ret u => obtain ⟨v, σ', H', I', rv, q'⟩ := q; exact ⟨v, _, _, I'.untry, rv, q'⟩
theorem HW {tb : (St -> XK) -> TS} (exD : ExC X.K D) (hm : X.mg cx = some (.ref D)) (hN : X.N.Nodup) (hi : X.N[i]? = some n) (hk : X.env.scope.names.lookup n = some .local) (hst : X.stack = X.env :: X.outer) (hfm : X.env.frame = some X.env.locals)
  (hb : ∀ pins E W, ph (X.tryc pins E) W -> QSs (X.tryc pins E) body (tb W)) (ho : QSs X orelse to) (hs : ∀ x pins, QSs (X.hand x pins fun _ _ => False) (b₀ :: suite) ts) (hg : Gl X cx := by rfl) (hdb : (cx == ("__debug__" : Str)) = false := by decide) :
  QS X (.Try body [.ExceptHandler (some (.Name cx np)) (some n) (b₀ :: suite) hpos] orelse [] pos) (Ly X.K D i tb to ts) := ⟨by
 intro pins s σ H En I h
 refine GK (tb := tb) (pK hst hfm fun {σ1 H0 H1 s0 s2 x C T dx} r q => ?_) (hb pins _ _ (pK hst hfm fun {σ1 H0 H1 s0 s2 x C T dx} r q => ?_)) ho I h
 all_goals
  obtain ⟨x2, C2, dx2, ex, hx2, sub, q2⟩ := q
  cases ex
  exact Ig (r.as hx2) sub exD hg hm hdb hN hi hk (hs x pins) q2⟩
end
theorem vP : entryFor table "proto.unchain" = some Builtin.«proto.unchain» := entryFor_of_fast Z5
section
variable {P : Program} {w : World} {A : Around} {E : EV} {s : Shared} {env : Env}
theorem vK {α : Type} {e d : Addr} {oe od : Obj} {ve vd : Array Value} {Q : α -> Shared -> Prop} (hh : A.handled = some (.ref d)) (hne : d ≠ e)
  (he : s.heap.get? e = some oe) (hde : oe.data = .fields ve) (h2e : 2 < ve.size) (hd : s.heap.get? d = some od) (hdd : od.data = .fields vd) (h2 : vd[2]? = some .none)
  (h : E (.ref e) { s with heap := s.heap.update e (Obj.mapFields (·.setIfInBounds 2 (.ref d))) }) : wpAny (model P w) A (raiseNew (.ref e) : Sem α) Q E s := by
 unfold raiseNew
 refine wpAny_bind (wpAny_handled ?_)
 rw [hh]
 dsimp only
 rw [if_pos (by simpa using hne)]
 refine wpAny_bind (wpAny_holding (wpAny_runValue (codeAny_builtin vP ?_)))
 unfold Builtin.«proto.unchain»
 dsimp only
 refine wpAny_bind (wpAny_field hd hdd h2 ?_)
 rw [if_pos Z3]
 refine wpAny_bind (wpAny_pure (wpAny_pure ?_))
 refine wpAny_bind (thn (wpAny_setField (i := 2) (x := .ref d) he hde h2e ?_ : wpAny _ _ (setField (.ref e) 2 (.ref d)) (fun _ s' => s' = { s with heap := s.heap.update e (Obj.mapFields (·.setIfInBounds 2 (.ref d))) }) _ s) fun _ s' z => ?_)
 ·rfl
 ·subst z
  exact wpAny_throw h
theorem Br {x c : Sem Value} {d : Addr} {Q : Flow -> Shared -> Prop} (hh : A.handled = some (.ref d)) (hc : ∀ (s1 : Shared) {Q1 : EV}, Q1 .none s1 -> wpAny (model P w) A c Q1 E s1)
  (h : wpAny (model P w) A x (fun v s1 => ∃ e C dx t0 a1 a2 a3 a4 a5 od vd, ∃ nm q N bs bm hdct sn sub ab col dd k0 k1 k2 k3 k5 nid, v = .ref e /\ s1.heap.get? C = some (excClassObj nm q C N bs bm hdct sn sub ab col dd k0 k1 k2 k3 k5 nid) /\ bm.contains (.type "BaseException") = true /\ s1.heap.get? e = some (bU C dx #[.ref t0, a1, a2, a3, a4, a5]) /\ a1 = .none /\ d ≠ e /\ C ≠ e /\
   s1.heap.get? d = some od /\ od.data = .fields vd /\ vd[2]? = some .none /\ ∀ h', (∀ b o, b ≠ e -> s1.heap.get? b = some o -> h'.get? b = some o) -> (∀ b, b ≠ e -> h'.get? b = s1.heap.get? b) -> h'.get? e = some (bU C dx #[.ref t0, .none, .ref d, .none, .bool true, a5]) -> E (.ref e) { s1 with heap := h' }) E s) :
  wpAny (model P w) A (raiseStmt env (some x) (some c)) Q E s := by
 unfold raiseStmt
 refine wpAny_bind (thn h fun v s1 hz => ?_)
 obtain ⟨e, C, dx, t0, a1, a2, a3, a4, a5, od, vd, nm, q, N, bs, bm, hdct, sn, sub, ab, col, dd, k0, k1, k2, k3, k5, nid, rfl, hC, hb, he, rfl, hne, hCe, hd, hdd, h2, hE⟩ := hz
 obtain ⟨hp, g, dr, t, os⟩ := s1
 refine wpAny_bind (wpAny_holding (hc _ (wpAny_bind (wpAny_pure ?_))))
 have nt : ∀ {hp : Heap} {o : Obj} {vs : Array Value} {Q2 : Bool -> Shared -> Prop}, hp.get? e = some (bU C dx vs) -> Q2 false ⟨hp, g, dr, t, os⟩ -> wpAny (model P w) A (isType (.ref e)) Q2 E ⟨hp, g, dr, t, os⟩ := fun {hp o vs Q2} he h2 => by
  unfold isType loadHead
  exact wpAny_bind (wpAny_loadPart he (wpAny_pure h2))
 refine wpAny_bind (wpAny_holding ?_)
 unfold excFromValue isExcClass isInstance
 refine wpAny_bind (wpAny_bind (nt (o := od) he ?_))
 rw [if_neg Z0]
 refine wpAny_pure ?_
 rw [if_neg Z0]
 refine wpAny_bind (wpAny_bind (wpAny_typeOf_ref he (wpAny_isSubtype_exc hC ?_)))
 rw [contains_cons, hb, Bool.or_true, if_pos rfl]
 refine wpAny_pure ?_
 dsimp only
 rw [if_pos Z3]
 have u1 := Heap.get?_update_self (h := hp) (Obj.mapFields (·.setIfInBounds 3 Value.none)) he Z3
 have v1 : ∀ b, b ≠ e -> (hp.update e (Obj.mapFields (·.setIfInBounds 3 Value.none))).get? b = hp.get? b := fun b hb => Heap.get?_update_other _ _ (Ne.symm hb)
 refine wpAny_bind (wpAny_pure (wpAny_bind (wpAny_setField (i := 3) (x := .none) he rfl (show 3 < 6 by decide) ?_)))
 generalize hp.update e (Obj.mapFields (·.setIfInBounds 3 Value.none)) = hp1 at u1 v1
 have u2 := Heap.get?_update_self (h := hp1) (Obj.mapFields (·.setIfInBounds 4 (Value.bool true))) u1 Z3
 have v2 : ∀ b, b ≠ e -> (hp1.update e (Obj.mapFields (·.setIfInBounds 4 (Value.bool true)))).get? b = hp1.get? b := fun b hb => Heap.get?_update_other _ _ (Ne.symm hb)
 refine wpAny_bind (wpAny_setField (i := 4) (x := .bool true) u1 rfl (show 4 < 6 by decide) ?_)
 generalize hp1.update e (Obj.mapFields (·.setIfInBounds 4 (Value.bool true))) = hp2 at u2 v2
 replace u2 : hp2.get? e = some (bU C dx #[.ref t0, .none, a2, .none, .bool true, a5]) := u2
 have w2 : ∀ b, b ≠ e -> hp2.get? b = hp.get? b := fun b hb => (v2 b hb).trans (v1 b hb)
 have hC2 := (w2 C hCe).trans hC
 refine wpAny_bind (nt (o := od) u2 ?_)
 rw [if_neg Z0]
 unfold raisedInstance
 refine wpAny_bind (wpAny_bind (wpAny_typeOf_ref u2 (wpAny_bind (wpAny_typeOf_ref hC2 ?_))))
 rw [if_pos (show ((excClassObj nm q C N bs bm hdct sn sub ab col dd k0 k1 k2 k3 k5 nid).cls == Value.type "type") = true from by rfl)]
 refine wpAny_pure ?_
 unfold setFlight
 refine wpAny_bind (wpAny_bind (wpAny_field (x := .none) u2 rfl rfl ?_))
 rw [if_neg Z0]
 refine wpAny_pure ?_
 have u3 := Heap.get?_update_self (h := hp2) (Obj.mapFields (·.setIfInBounds 2 (Value.ref d))) u2 Z3
 have v3 : ∀ b, b ≠ e -> (hp2.update e (Obj.mapFields (·.setIfInBounds 2 (Value.ref d)))).get? b = hp2.get? b := fun b hb => Heap.get?_update_other _ _ (Ne.symm hb)
 refine vK hh hne u2 rfl (show 2 < 6 by decide) ((w2 d hne).trans hd) hdd h2 (hE _ (fun b o hb q => ?_) (fun b hb => (v3 b hb).trans (w2 b hb)) u3)
 exact ((v3 b hb).trans (w2 b hb)).trans q
end
section
variable {X : Cx} {pins : OP} {σ : St} {H0 H1 : Hp} {s0 s2 : Shared} {x C D T d : Addr} {dx : Option Addr} {cx n : Str} {i : Nat} {np hpos pos cp : Pos} {ck : Nat} {e : Expr} {te : TE} {b₀ : Stmt} {suite body orelse : List Stmt} {rest : List ExceptHandler} {ts to : TS} {En : Ends} {W : St -> XK}
def Dj (K : Frag) (d : Addr) (W : St -> XK) (te : TE) : TS := fun _ σ H => te σ H fun v H1 => ∃ x C p Cd fd, v = .ref x /\ H1 x = some (ExO true x C (some p)) /\ ExC K C /\ d ≠ x /\ H1 d = some (ExO fd d Cd none) /\ W σ (.ref x) none (upd H1 x (ExO false x C (some p)))
theorem Ey (hw : ph X W) (hh : X.A.handled = some (.ref d)) (he : PE X e te) : QS X (.Raise (some e) (some (.Constant .none ck cp)) pos) (Dj X.K d W te) := ⟨by
 intro pins s σ H D I h
 rw [arm_exec_Raise]
 refine wpAny_bind (wpAny_standAt ?_)
 refine Br (x := do let v <- eval e X.env; standAt pos; pure v) (c := do let v <- eval (.Constant .none ck cp) X.env; standAt pos; pure v) hh (fun s1 Q1 q1 => ?_) (wpAny_bind (thn (he pins s σ H _ I h) fun u s1 hz => ?_))
 ·exact wpAny_bind (Constant_none (wpAny_bind (wpAny_standAt (wpAny_pure q1))))
 obtain ⟨vv, H1, I1, r, x, C, p, Cd, fd, rfl, hx, c, hne, hd, q⟩ := hz
 obtain rfl : u = Value.ref x := r
 obtain ⟨nm, q', N, bs, bm, hdct, sn, sub, ab, col, dd, k0, k1, k2, k3, k5, hcl, hT⟩ := c
 obtain ⟨t0, a1, a2, a3, a4, a5, e1, hn⟩ := fO I1.hok hx
 obtain ⟨t0d, b1, b2, b3, b4, b5, e2, hnd⟩ := fO I1.hok hd
 have hC : C ≠ x := fun z => by
  have := I1.kIn _ _ hcl
  rw [z, e1] at this
  cases this
 refine wpAny_bind (wpAny_standAt (wpAny_pure ⟨x, C, some p, t0, a1, a2, a3, a4, a5, _, _, nm, q', N, bs, bm, hdct, sn, sub, ab, col, dd, k0, k1, k2, k3, k5, _, rfl, I1.kIn _ _ hcl, nZ (hT _ I1.kIn), e1, hn.1 rfl, hne, hC, e2, rfl, by rw [hnd.2 rfl]; rfl, fun h' k k2 e3 => ?_⟩))
 obtain ⟨hp, g, dr, t, os⟩ := s1
 have I2 := I1.write (x := x) (e := x) (o := ExO false x C (some p)) (t' := t) (h' := h') (by rw [hx]; exact True.intro) (.inl rfl) (fun b o hb q => k b o hb q) ⟨_, e3⟩ (pG e3 ⟨fun z => (by cases z), fun z => (by cases z)⟩)
 exact hw.made I2 ao ⟨_, _, e3, rfl, rfl⟩ q⟩
theorem Ef (ok : X.Ok) (hw : ph X W) : ph (X.hand x pins X.xe) W where
 made := fun I hx hf q => hw.made (I.unhand ok) hx hf q
 came := fun I z => hw.came (I.unhand ok) z
theorem Hj (hp : PassesOwnAt (model X.prog X.w) (X.A.mark (some (.ref x))) X.A X.env X.xe) (r : Rz X pins σ H0 s0 H1 x C dx T s2) (sub : Sub X.K C D) (exD : ExC X.K D) (hg : Gl X cx) (hm : X.mg cx = some (.ref D)) (hdb : (cx == ("__debug__" : Str)) = false)
  (hs : X.Ok -> QSs (X.hand x pins X.xe) (b₀ :: suite) ts) (q : ts En σ H1) :
  wpAny (model X.prog X.w) X.A (handleBy (.ref x) X.env (.ExceptHandler (some (.Name cx np)) none (b₀ :: suite) hpos :: rest)) (SP X pins En) X.xe s2 := by
 have Ih := r.inv.hand (x := x) (E := X.xe)
 refine wpAny_handleBy_cons (codeAny_handlers_test (fj Ih hg hm ?_ hdb)) Z7
 obtain ⟨nm, q', N, bs, bm, hdct, sn, sb, ab, col, dd, k0, k1, k2, k3, k5, hcl, hT⟩ := exD
 obtain ⟨nm2, q2, N2, bs2, bm2, hdct2, sn2, sb2, ab2, col2, dd2, j0, j1, j2, j3, j5, nid, hcl2, hcon⟩ := sub
 obtain ⟨t0, a1, a2, a3, a4, a5, e, _⟩ := fO r.hok r.at_
 refine v8 (r.inv.kIn _ _ hcl2) (r.inv.kIn _ _ hcl) e rfl (nZ (hT _ r.inv.kIn)) ?_
 rw [hcon]
 show codeAny _ _ (Code.handlers _ [ExceptHandler.ExceptHandler none none (b₀ :: suite) hpos] _) _ _
 refine codeAny_handlers_suite (r.flight fun s3 r3 => ?_)
 refine wpAny_mono ((hs r.inv.ok).h [] s3 _ _ _ r3.inv.hand q) (fun f s5 q5 => ?_) (fun e s5 z => ?_)
 ·cases f with
  | next => obtain ⟨σ', H', I', q'⟩ := q5; exact ⟨_, _, I'.unhand r.inv.ok, q'⟩
  | brk => obtain ⟨σ', H', I', q'⟩ := q5; exact ⟨_, _, I'.unhand r.inv.ok, q'⟩
  | cont => obtain ⟨σ', H', I', q'⟩ := q5; exact ⟨_, _, I'.unhand r.inv.ok, q'⟩
  | ret u => obtain ⟨v, σ', H', I', rv, q'⟩ := q5; exact ⟨v, _, _, I'.unhand r.inv.ok, rv, q'⟩
 ·exact hp _ _ z
def V9 (K : Frag) (D : Addr) (tb : (St -> XK) -> TS) (to : TS) (ts : Addr -> TS) : TS := fun En σ H =>
 tb (fun σ1 e _ H1 => ∃ x C dx, e = .ref x /\ H1 x = some (ExO false x C dx) /\ Sub K C D /\ ts x En σ1 H1) { En with nx := fun σ2 H2 => to En σ2 H2 } σ H
theorem Jb {tb : (St -> XK) -> TS} {ts : Addr -> TS} (hp : ∀ x : Addr, PassesOwnAt (model X.prog X.w) (X.A.mark (some (.ref x))) X.A X.env X.xe) (hw : ph X W) (exD : ExC X.K D) (hm : X.mg cx = some (.ref D)) (hst : X.stack = X.env :: X.outer) (hfm : X.env.frame = some X.env.locals)
  (hb : ∀ pins E W, ph (X.tryc pins E) W -> QSs (X.tryc pins E) body (tb W)) (ho : QSs X orelse to) (hs : ∀ x pins, ph (X.hand x pins X.xe) W -> QSs (X.hand x pins X.xe) (b₀ :: suite) (ts x)) (hg : Gl X cx := by rfl) (hdb : (cx == ("__debug__" : Str)) = false := by decide) :
  QS X (.Try body [.ExceptHandler (some (.Name cx np)) none (b₀ :: suite) hpos] orelse [] pos) (V9 X.K D tb to ts) := ⟨by
 intro pins s σ H En I h
 refine GK (tb := tb) (pK hst hfm fun {σ1 H0 H1 s0 s2 x C T dx} r q => ?_) (hb pins _ _ (pK hst hfm fun {σ1 H0 H1 s0 s2 x C T dx} r q => ?_)) ho I h
 all_goals
  obtain ⟨x2, C2, dx2, ex, hx2, sub, q2⟩ := q
  cases ex
  exact Hj (hp x) (r.as hx2) sub exD hg hm hdb (fun ok => hs x pins (Ef ok hw)) q2⟩
end
section
variable {X : Cx} {W : St -> XK} {k : Nat} {f C : Addr} {fd : FuncData} {ps : List Str} {sp : Sp} {m : Str} {p pos apos : Pos} {e o : Expr} {es : List Expr} {ta : TE} {t : TA}
theorem JR : ph X (fun _ => E0) := ⟨fun _ _ _ q => q.elim, fun _ z => by obtain ⟨_, _, _, _, _, _, _, _, _, _, _, _, _, _, _, q⟩ := z; exact q.elim⟩
theorem LC {K : Frag} (h : X.K = K) : OpR X (compareOp .In) (rIn K false) := by subst h; exact je
end
section
variable {X : Cx} {W : St -> XK} {k : Nat} {f C : Addr} {fd : FuncData} {ps : List Str} {sp : Sp} {x : Str} {p p2 pos : Pos} {e stp : Expr} {es : List Expr} {te tf : TE} {tk : TO} {t : TA}
end
section
variable {prog : Program} {w : World} {A : Around} {E : EV} {s : Shared}
end
section
variable {X : Cx}
end
structure qC (P : Program) (w : World) (K : Frag) (mg : MG) (base : Heap) (k : Nat) (f : Addr) (fd : FuncData) (ps : List Str) (sp : Sp) : Prop where
 len : ∀ vs H Q E, sp vs H Q E -> vs.length = ps.length
 run : ∀ (A : Around) (x : Addr) (outer : List Env) (s : Shared) (H : Hp) (args : Args) (us : List Value) (vs : List V) (Q : VK) (E : XK), bh k A -> yI P w K mg base A outer s H -> BindsTo s fd args (ps.zip us) -> Vals vs us -> sp vs H Q E ->
  codeAny (model P w) (A.mark (some (.ref x))) (.call (.ref f) args) (CR CX0 outer P w H s Q E) s
section
variable {P : Program} {w : World} {K : Frag} {mg : MG} {base : Heap}
theorem Fun.okH {x qual : Str} {st : Stmt} {f : Addr} {fd : FuncData} {N ps : List Str} {k : Nat} {sp : Sp} (F : Fun K x qual st f fd) (S : aK N ps (aC st)) (len : ∀ vs H Q E, sp vs H Q E -> vs.length = ps.length)
  (hbody : ∀ (cdv : Value) (A : Around) (outer : List Env) (s : Shared) (H : Hp) (vs : List V) (Q : VK) (E : XK) (y : Addr), bh k (A.deeper (envOfC qual (aC st) s.heap.objs.size f cdv)) -> sp vs H Q E ->
   ∃ t, PSs ((nj CX0 P w K mg base N qual (aC st) f cdv A outer s H E).hand y [] fun _ _ => False) (cu st) t /\ t { nx := fun _ H' => Q .non H', rt := Q } (start N vs) H) : qC P w K mg base (k + 1) f fd ps sp := by
 obtain ⟨oc, od, kV, doc, pm, an, cdv, ct, osl, rfl, lk, hcd⟩ := F.ex
 refine ⟨len, fun A y outer s H args us vs Q E hr e0 hb r hsp => ?_⟩
 have hl := len _ _ _ _ hsp
 have KX : K.In s.heap := e0.mod.kin.keeps fun b o e => (e0.bs b o e).1
 have lim : s.heap.NoLimit := e0.mod.nolimit.keeps fun b o e => (e0.bs b o e).1
 have hkind : ∀ z ∈ ps.zip us, (aC st).names.lookup z.1 = some .local \/ ((aC st).names.lookup z.1 = some .cell /\ ((cellsFrom (s.heap.objs.size + 1) (aC st).names []).lookup z.1).isSome = true) := fun ⟨n, v⟩ hy => by
  rcases S.par n (of_mem_zip hy).1 with q | q
  ·exact .inl q
  ·exact .inr ⟨q, cellsFrom_some _ _ _ (.inl q)⟩
 refine codeAny_call_function (A := A.mark (some (.ref y))) hr.depth (KX _ _ lk) rfl S.co S.gen rfl (codeRec_of KX hcd) (hb _ _ _ _ ?_)
 refine wpAny_newFunctionEnv_cells S.kind hkind fun env he s1 x => ?_
 subst he
 refine ⟨lim.keeps x.toInCall.keep, codeAny_func ?_⟩
 obtain ⟨t, ht, hq⟩ := hbody cdv A outer s H vs Q E y (hr.deeper _) hsp
 have I : Inv (nj CX0 P w K mg base N qual (aC st) f cdv A outer s H E) [] (start N vs) H s1 := wN S hr.hd e0 hl r x
 refine wpAny_mono (ht [] s1 (start N vs) H _ I.hand hq) (fun fl s' hs => ?_) fun e s' hs => hs.elim
 have fin : ∀ {σ' : St} {H' : Hp} {v : V} {u : Value}, Inv ((nj CX0 P w K mg base N qual (aC st) f cdv A outer s H E).hand y [] fun _ _ => False) [] σ' H' s' -> RelV v u -> Q v H' -> CE outer P w H s Q u s' :=
  fun {σ' H' v u} J rv q => ⟨v, H', J.os, J.bare, J.base, J.hok, rv, q⟩
 cases fl with
 | ret u =>
  obtain ⟨v, σ', H', J, rv, q⟩ := hs
  exact fin J rv q
 | next =>
  obtain ⟨σ', H', J, q⟩ := hs
  exact fin (v := V.non) (u := Value.none) J rfl q
 | brk =>
  obtain ⟨_, _, _, q⟩ := hs
  exact False.elim q
 | cont =>
  obtain ⟨_, _, _, q⟩ := hs
  exact False.elim q
end
section
variable {X : Cx} {k : Nat} {f y : Addr} {fd : FuncData} {ps : List Str} {sp : Sp} {x : Str} {st : Stmt} {p pos : Pos} {e : Expr} {es : List Expr} {t : TA} {pins0 : OP} {E0' : EV}
theorem G4 (A : FnAt X.K X.mg x st ps f fd) (F : qC X.prog X.w X.K X.mg X.base k f fd ps sp) (hr : bh k X.A) (ha : PA (X.hand y pins0 E0') (e :: es) t) (hg : Gl (X.hand y pins0 E0') x := by rfl) (hdb : (x == ("__debug__" : Str)) = false := by decide)
  (he : starEach (e :: es) X.env = (false, eval e X.env) :: starEach es X.env := by rfl) (hpl : (backTo pos (starEach es X.env)).any (·.1) = false := by rfl) :
  PE (X.hand y pins0 E0') (.Call (.Name x p) (e :: es) [] pos) (Cm sp [] E0 t) := by
 intro pins s σ H Q I h
 refine wpAny_Call_Name_kw (fj I hg A.m ?_ hdb)
 refine callWith_K (h₀ := X.base) I.ok.mod.kin A.F.kp (thn (ha pos pins s σ H _ I h) fun us s1 ⟨vs, H1, I1, r, q⟩ => ⟨I1.kIn, ?_⟩) he hpl
 have q : sp (vs ++ []) H1 Q E0 := q
 rw [append_nil] at q
 have hl : (us ++ []).length = ps.length := by rw [append_nil, <- r.length]; exact F.len _ _ _ _ q
 have e0 := I1.env0
 refine wpAny_call (codeAny_mono (F.run X.A y X.stack s1 H1 ⟨us, []⟩ (us ++ []) vs Q E0 hr ⟨e0.frames, e0.mod, e0.bs, e0.bsz, e0.funs, e0.frf, e0.hok, e0.bare⟩ (A.b s1 us I1.kIn hl) (by rw [append_nil]; exact r) q) fun r s' hq => ?_)
 cases r with
 | error e => exact hq.elim
 | ok fl =>
  cases fl with
  | ret u => exact I1.after hq
  | next => exact False.elim hq
  | brk => exact False.elim hq
  | cont => exact False.elim hq
end
section
variable {X : Cx} {W : St -> XK} {k : Nat} {f C : Addr} {fd : FuncData} {ps : List Str} {sp : Sp} {x : Str} {p pos : Pos} {e : Expr} {es : List Expr} {t : TA}
end
section
variable {X : Cx}
end
section
variable {X : Cx} {tg : Expr}
end
section
variable {X : Cx} {pins : OP} {σ : St} {H : Hp} {s : Shared}
end
end L2
namespace Kn
section
variable {α : Type}
end
end Kn
namespace L2
open PySem PySem.Spec PyProof.Rows PySem.W
section
variable {X : Cx} {pins : OP} {σ : St} {H : Hp} {s : Shared}
end
open AutoSeq1 (wpAny_loadPart')
open MeetsSeq MeetsSeq2 MeetsSeq3 SeqRoads2
section
variable {prog : Program} {w : World} {A : Around} {R : Result -> Shared -> Prop} {I : Addr} {fp wr : List Addr} {n : Nat} {P : Nat -> Value -> Prop} {St : Nat -> Heap -> Prop}
end
section
variable {X : Cx}
end
section
variable {X : Cx}
end
section
variable {X : Cx} {k : Nat} {f C y : Addr} {fd : FuncData} {ps : List Str} {sp : Sp} {x qual : Str} {st : Stmt} {p pos : Pos} {e : Expr} {es : List Expr} {t : TA} {pins0 : OP} {E0' : EV}
theorem Le (A : XIn X.K C qual st ps f fd) (G : qC X.prog X.w X.K X.mg X.base k f fd ps sp) (hr : bh (k + 1) X.A) (hm : X.mg x = some (.ref C)) (c : ExC X.K C) (ha : PA (X.hand y pins0 E0') (e :: es) t) (hg : Gl (X.hand y pins0 E0') x := by rfl)
  (hdb : (x == ("__debug__" : Str)) = false := by decide) (he : starEach (e :: es) X.env = (false, eval e X.env) :: starEach es X.env := by rfl) (hpl : (backTo pos (starEach es X.env)).any (·.1) = false := by rfl) :
  PE (X.hand y pins0 E0') (.Call (.Name x p) (e :: es) [] pos) (Bm C sp [] E0 t) := by
 intro pins s σ H Q I h
 refine wpAny_Call_Name_kw (fj I hg hm ?_ hdb)
 refine callWith_K (h₀ := X.base) I.ok.mod.kin A.kp (thn (ha pos pins s σ H _ I h) fun us s1 ⟨vs, H1, I1, r, q⟩ => ⟨I1.kIn, ?_⟩) he hpl
 have hq := q (s1.heap.objs.size + 1) (I1.hok.fresh (le_succ _))
 have I2 := Inv.madeX (C := C) (us := us) I1
 rw [append_nil] at hq
 have r2 : Vals (V.ref (s1.heap.objs.size + 1) :: vs) (Value.ref (s1.heap.objs.size + 1) :: us) := .cons rfl r
 have hl : (Value.ref (s1.heap.objs.size + 1) :: us ++ []).length = ps.length := by
  have e := r2.length
  rw [G.len _ _ _ _ hq] at e
  rw [append_nil]
  exact e.symm
 have hus : us.length <= sizeLine := by
  have : us.length <= ps.length := by rw [<- hl, append_nil, length_cons]; omega
  exact le_trans this (le_trans A.sm Z0)
 obtain ⟨nm, q, N, bs, bm, hdct, sn, sub, ab, col, dd, k0, k1, k2, k3, k5, hc, T⟩ := c
 have e0 := I2.env0
 have e1 : yI X.prog X.w X.K X.mg X.base X.A X.stack _ _ := ⟨e0.frames, e0.mod, e0.bs, e0.bsz, e0.funs, e0.frf, e0.hok, e0.bare⟩
 refine wpAny_call (uD excBase_ValueError (T _ I1.kIn) (I1.kIn _ _ hc) (looks_findIn I1.kIn A.i) (fun self => bind_fn I1.kIn self (beq_iff_eq.mp A.fn)) hus
  (codeAny_mono (G.run (X.A.under (.builtin "type.__call__" ⟨.ref C :: us, []⟩)) y X.stack _ _ ⟨Value.ref (s1.heap.objs.size + 1) :: us, []⟩ (Value.ref (s1.heap.objs.size + 1) :: us) _ _ E0 (hr.make C us [])
  (e1.make C us []) (by have z := A.b _ (Value.ref (s1.heap.objs.size + 1) :: us) I2.kIn hl; rw [append_nil] at z; exact z) r2 hq) fun r s' hq' => ?_))
 cases r with
 | error e => exact hq'.elim
 | ok fl =>
  cases fl with
  | ret u =>
   obtain ⟨v, H', I3, rv, ev, q3⟩ := I2.after hq'
   subst ev
   exact ⟨rv, ⟨V.ref (s1.heap.objs.size + 1), H', I3, rfl, q3⟩⟩
  | next => exact False.elim hq'
  | brk => exact False.elim hq'
  | cont => exact False.elim hq'
end
end L2
namespace Mine
open PySem PySem.Spec PyProof.Rows L2 PySem.Builtin PySem.Builtin.Str
theorem Jg {c : Nat} : inL c = true ↔ 97 <= c /\ c <= 122 := by
 refine ⟨fun h => ?_, fun h => Ds h.1 h.2⟩
 unfold inL at h
 rw [StrLaws.found_one, decide_eq_true_eq] at h
 have : ∀ n ∈ letters.cps.toList, 97 <= n /\ n <= 122 := by decide +kernel
 exact this c h
theorem Dt {c : Nat} : inF c = true ↔ 48 <= c /\ c <= 57 := by
 refine ⟨fun h => ?_, fun h => Dq h.1 h.2⟩
 unfold inF at h
 rw [StrLaws.found_one, decide_eq_true_eq] at h
 have : ∀ n ∈ Ja.cps.toList, 48 <= n /\ n <= 57 := by decide +kernel
 exact this c h
theorem lF {z : Str} : nmB z = true ↔ dq z := by
 refine ⟨fun h => ?_, dq.nmB⟩
 unfold nmB at h
 rw [and_eq_true, and_eq_true, decide_eq_true_eq, decide_eq_true_eq, all_eq_true] at h
 exact ⟨h.1.1, h.1.2, fun n hn => Jg.mp (h.2 n hn)⟩
theorem pq {d : Nat} (h : d < 10) : (Nat.toDigits 10 d).map Char.toNat = [48 + d] := by
 rw [Nat.toDigits_of_lt_base h]
 have : ∀ n : Fin 10, [Nat.digitChar n.val].map Char.toNat = [48 + n.val] := by decide
 exact this ⟨d, h⟩
theorem digits_of : ∀ (n : Nat) (ds : List Nat), ds.length = n -> ds ≠ [] -> (∀ d ∈ ds, 48 <= d /\ d <= 57) -> (ds.head? = some 48 -> ds = [48]) -> ∃ m, (Nat.toDigits 10 m).map Char.toNat = ds := by
 intro n
 induction n using Nat.strongRecOn with
 | _ n ih =>
  intro ds hn h0 hd hh
  have e := List.dropLast_concat_getLast h0
  have hl := hd _ (List.getLast_mem h0)
  generalize ds.getLast h0 = d at e hl
  by_cases hi : ds.dropLast = []
  ·rw [hi, List.nil_append] at e
   refine ⟨d - 48, ?_⟩
   rw [pq Z1, <- e, show 48 + (d - 48) = d from by omega]
  ·have hlen : ds.dropLast.length < n := by rw [List.length_dropLast, hn]; have := length_pos_iff.mpr h0; omega
   have h2 : 2 <= ds.length := by have := length_pos_iff.mpr hi; rw [List.length_dropLast] at this; omega
   have hhd : ds.dropLast.head? = ds.head? := by
    cases hq : ds.dropLast with
    | nil => exact absurd hq hi
    | cons a r => rw [hq] at e; rw [<- e]; rfl
   have hno : ds.dropLast.head? ≠ some 48 := fun z => by
    rw [hhd] at z
    have := hh z
    rw [this] at h2
    simp at h2
   obtain ⟨m, hm⟩ := ih _ hlen ds.dropLast rfl hi (fun x hx => hd x ((List.dropLast_sublist ds).subset hx)) (fun z => absurd z hno)
   have hm0 : 0 < m := by
    rcases Nat.eq_zero_or_pos m with z | z
    ·subst z
     rw [pq Z0] at hm
     exact absurd (by rw [<- hm]; rfl) hno
    ·exact z
   refine ⟨10 * m + (d - 48), ?_⟩
   rw [<- Nat.toDigits_append_toDigits (b := 10) (n := m) (d := d - 48) Z0 hm0 Z1, map_append, hm, pq Z1, show 48 + (d - 48) = d from by omega, e]
theorem ue : zero.cps.toList = [48] := by decide +kernel
theorem vq {z : Str} (h : ir z = true) : ∃ m, m < 10 ^ 20 /\ z = m7 m := by
 unfold ir at h
 simp only [and_eq_true, decide_eq_true_eq, all_eq_true, Bool.not_eq_true', Bool.and_eq_false_iff, decide_eq_false_iff_not, Bool.not_eq_false', Bool.not_eq_true] at h
 obtain ⟨⟨⟨h1, h2⟩, h3⟩, h4⟩ := h
 have h0 : z.cps.toList ≠ [] := fun e => by rw [bQ, e] at h1; simp at h1
 obtain ⟨m, hm⟩ := digits_of _ z.cps.toList rfl h0 (fun d hd => Dt.mp (h4 d hd)) (fun e => by
  rcases h3 with k | k
  ·exact absurd e k
  ·have k : z = zero := by simpa using k
   rw [k, ue])
 have e : z = m7 m := dR (by rw [jh, hm])
 refine ⟨m, ?_, e⟩
 have : (Nat.toDigits 10 m).length <= 20 := by rw [bQ, <- hm, length_map] at h2; exact h2
 exact (Nat.length_toDigits_le_iff Z0 Z0).mp this
def cF (n : Nat) (z : Str) : Bool := decide (((Txt.split z ("." : Str)).length : Int) <= (n : Int)) && (Txt.split z ("." : Str)).all nmB
theorem CW {n : Nat} {z : Str} (h : cF n z = true) : ∃ ys, ys ≠ [] /\ ys.length <= n /\ (∀ y ∈ ys, dq y) /\ z = dotted ys := by
 unfold cF at h
 rw [and_eq_true, decide_eq_true_eq, all_eq_true] at h
 refine ⟨Txt.split z ("." : Str), ?_, Z1, fun y hy => lF.mp (h.2 y hy), ?_⟩
 ·rw [uO]; exact nF _ _
 ·rw [gZ, uO]; exact (StrLaws.join_split z _).symm
theorem zz {n : Nat} {ys : List Str} (h0 : ys ≠ []) (h1 : ys.length <= n) (hn : ∀ y ∈ ys, dq y) : cF n (dotted ys) = true := by
 unfold cF
 rw [cC ys h0 hn, decide_eq_true Z1, all_eq_true.mpr fun y hy => (hn y hy).nmB]; rfl
theorem Bu {z : Str} : cF 4 z = true ↔ ∃ ys, fV ys /\ z = dotted ys := by
 refine ⟨fun h => ?_, fun ⟨ys, g, e⟩ => by rw [e]; exact zz g.lo g.hi g.nm⟩
 obtain ⟨ys, a, b, c, e⟩ := CW h
 exact ⟨ys, ⟨a, b, c⟩, e⟩
theorem ends_app {z : Str} (h : Txt.endswith z brk = true) : ∃ a, z = a ++ brk := by
 obtain ⟨pre, e⟩ := wC h
 exact ⟨⟨pre.toArray⟩, dR (by rw [dO, gf, e])⟩
theorem rG {a b : Str} (h : a ++ brk = b ++ brk) : a = b := by
 apply dR
 have := congrArg (fun x : Str => x.cps.toList) h
 simp only [dO] at this
 exact List.append_cancel_right this
def RdW (z : Str) : Prop := ∃ th, km th /\ z = wordOf th
theorem pN {a : Str} (hn : ir (a ++ brk) = false) (h : cF 4 a = false) : ¬ RdW (a ++ brk) := by
 rintro ⟨th, g, e⟩
 cases th with
 | num m => rw [e] at hn; have := (iK (show m < 10 ^ 20 from g)).1; rw [show wordOf (.num m) = m7 m from rfl, this] at hn; cases hn
 | nms c ys =>
  cases c with
  | true => rw [rG (show a ++ brk = dotted ys ++ brk from e), Bu.mpr ⟨ys, g, rfl⟩] at h; cases h
  | false =>
   have k := qO (fV.nm g)
   rw [<- (show a ++ brk = dotted ys from e), lq] at k
   cases k
theorem lZ {z : Str} (hn : ir z = false) (he : Txt.endswith z brk = false) (h : cF 4 z = false) : ¬ RdW z := by
 rintro ⟨th, g, e⟩
 cases th with
 | num m => rw [e] at hn; have := (iK (show m < 10 ^ 20 from g)).1; rw [show wordOf (.num m) = m7 m from rfl, this] at hn; cases hn
 | nms c ys =>
  cases c with
  | true => rw [show z = dotted ys ++ brk from e, lq] at he; cases he
  | false => rw [show z = dotted ys from e, Bu.mpr ⟨ys, g, rfl⟩] at h; cases h
theorem uX {ys zs : List Str} (gy : fV ys) (gz : fV zs) (e : dotted ys = dotted zs) : ys = zs := by
 have := cC ys gy.lo gy.nm
 rw [e, cC zs gz.lo gz.nm] at this
 exact this.symm
theorem HD {m n : Nat} (hm : m < 10 ^ 20) (hn : n < 10 ^ 20) (e : m7 m = m7 n) : m = n := by
 have h1 := (iK hm).2.2.2
 rw [e, (iK hn).2.2.2] at h1
 have := Option.some.inj h1
 omega
theorem CZ {m : Nat} {c : Bool} {ys : List Str} (hm : m < 10 ^ 20) (g : fV ys) (e : m7 m = wordOf (.nms c ys)) : False := by
 obtain ⟨lc, hlc, lo, hi⟩ := oR g.lo g.nm
 have : lc ∈ (wordOf (.nms c ys)).cps.toList := by
  cases c with
  | true => show lc ∈ (dotted ys ++ brk).cps.toList; rw [dO]; exact mem_append_left _ hlc
  | false => exact hlc
 rw [<- e] at this
 have := digit_range this
 omega
theorem um {a b : Thg} (ga : km a) (gb : km b) (e : wordOf a = wordOf b) : a = b := by
 cases a with
 | num m =>
  cases b with
  | num n => rw [HD ga gb e]
  | nms c ys => exact (CZ ga gb e).elim
 | nms c ys =>
  cases b with
  | num n => exact (CZ gb ga e.symm).elim
  | nms d zs =>
   cases c with
   | true =>
    cases d with
    | true => rw [uX ga gb (rG e)]
    | false =>
     have k := qO (fV.nm gb)
     rw [<- (show dotted ys ++ brk = dotted zs from e), lq] at k
     cases k
   | false =>
    cases d with
    | true =>
     have k := qO (fV.nm ga)
     rw [(show dotted ys = dotted zs ++ brk from e), lq] at k
     cases k
    | false => rw [uX ga gb e]
theorem Ie {a b : Int} (ha : a = 1 \/ a = -1) (hb : b = 1 \/ b = -1) (e : sgw a = sgw b) : a = b := by
 rcases ha with rfl | rfl <;> rcases hb with rfl | rfl
 ·rfl
 ·exact absurd e Z4
 ·exact absurd e Z4
 ·rfl
theorem Am {ts : List Trm} (g : cj ts) {i : Nat} {w : Str} (h : (wordsOf ts)[2 * i]? = some w) : RdW w := by
 cases ts with
 | nil => exact absurd rfl g.lo
 | cons t0 tr =>
  cases i with
  | zero => cases h; exact ⟨t0.th, (g.ok t0 mem_cons_self).th, rfl⟩
  | succ i =>
   have hl := cU g.lo
   have hi := (List.getElem?_eq_some_iff.mp h).1
   rw [length_cons] at hl
   have hti : (t0 :: tr)[i + 1]? = some (tr[i]'Z1) := by simp
   have := (pX hti).2
   rw [show 2 * (i + 1) = 2 * i + 2 from by omega, this] at h
   cases h
   exact ⟨_, (g.ok _ (mem_cons_of_mem _ (getElem_mem Z1))).th, rfl⟩
theorem Fj {ts : List Trm} (g : cj ts) {i : Nat} {w : Str} (h : (wordsOf ts)[2 * i + 1]? = some w) : ∃ s : Int, (s = 1 \/ s = -1) /\ w = sgw s := by
 cases ts with
 | nil => exact absurd rfl g.lo
 | cons t0 tr =>
  have hl := cU g.lo
  have hi := (List.getElem?_eq_some_iff.mp h).1
  rw [length_cons] at hl
  have hti : (t0 :: tr)[i + 1]? = some (tr[i]'Z1) := by simp
  have := (pX hti).1
  rw [this] at h
  cases h
  exact ⟨_, (g.ok _ (mem_cons_of_mem _ (getElem_mem Z1))).sg, rfl⟩
theorem eQ {ts us : List Trm} (gt : cj ts) (gu : cj us) (e : wordsOf ts = wordsOf us) : ts = us := by
 have l1 := cU gt.lo
 have l2 := cU gu.lo
 have p1 := length_pos_iff.mpr gt.lo
 have p2 := length_pos_iff.mpr gu.lo
 have hl : ts.length = us.length := by rw [e] at l1; omega
 have tr_ext : ∀ {a b : Trm}, a.sg = b.sg -> a.th = b.th -> a = b := fun {a b} x y => by cases a; cases b; cases x; cases y; rfl
 refine ext_getElem hl fun i h1 h2 => ?_
 cases i with
 | zero =>
  cases ts with
  | nil => exact absurd rfl gt.lo
  | cons t0 tr =>
   cases us with
   | nil => exact absurd rfl gu.lo
   | cons u0 ur =>
    refine tr_ext ((gt.hd t0 rfl).trans (gu.hd u0 rfl).symm) (um (gt.ok t0 mem_cons_self).th (gu.ok u0 mem_cons_self).th ?_)
    have := congrArg (·[0]?) e
    exact Option.some.inj this
 | succ i =>
  obtain ⟨a1, a2⟩ := pX (ts := ts) (i := i) (getElem?_eq_getElem h1)
  obtain ⟨b1, b2⟩ := pX (ts := us) (i := i) (getElem?_eq_getElem h2)
  rw [e, b1] at a1
  rw [e, b2] at a2
  have ga := gt.ok _ (getElem_mem h1)
  have gb := gu.ok _ (getElem_mem h2)
  exact tr_ext (Ie ga.sg gb.sg (Option.some.inj a1).symm) (um ga.th gb.th (Option.some.inj a2).symm)
def RdE (ws : List Str) : Prop := ∃ ts, cj ts /\ ws = wordsOf ts
theorem mJ {ws : List Str} (h : RdE ws) : ws.length % 2 = 1 /\ ws.length <= 11 := by
 obtain ⟨ts, g, rfl⟩ := h
 have := cU g.lo
 have := g.hi
 have := length_pos_iff.mpr g.lo
 omega
theorem lB {ws : List Str} (h : RdE ws) {i : Nat} {w : Str} (e : ws[2 * i]? = some w) : RdW w := by
 obtain ⟨ts, g, rfl⟩ := h
 exact Am g e
theorem Dl {ws : List Str} (h : RdE ws) {i : Nat} {w : Str} (e : ws[2 * i + 1]? = some w) : ∃ s : Int, (s = 1 \/ s = -1) /\ w = sgw s := by
 obtain ⟨ts, g, rfl⟩ := h
 exact Fj g e
structure yD (ws : List Str) (i : Nat) (ts : List Trm) : Prop where
 lo : ts.length = i + 1
 ok : ∀ t ∈ ts, m9 t
 hd : ∀ t, ts.head? = some t -> t.sg = 1
 ws : wordsOf ts = ws.take (2 * i + 1)
theorem yD.first {ws : List Str} {th : Thg} (g : km th) (e : ws[0]? = some (wordOf th)) : yD ws 0 [⟨1, th⟩] := by
 refine ⟨rfl, fun t ht => ?_, fun t ht => ?_, ?_⟩
 ·rw [mem_singleton.mp ht]; exact ⟨.inl rfl, g⟩
 ·cases ht; rfl
 ·cases ws with
  | nil => cases e
  | cons w r => cases e; rfl
theorem yD.next {ws : List Str} {i : Nat} {ts : List Trm} (h : yD ws i ts) {s : Int} {th : Thg} (hs : s = 1 \/ s = -1) (g : km th) (e1 : ws[2 * i + 1]? = some (sgw s)) (e2 : ws[2 * i + 2]? = some (wordOf th)) : yD ws (i + 1) (ts ++ [⟨s, th⟩]) := by
 have h0 : ts ≠ [] := fun z => by have := h.lo; rw [z] at this; cases this
 refine ⟨by rw [length_append, h.lo]; rfl, fun t ht => ?_, fun t ht => ?_, ?_⟩
 ·rcases mem_append.mp ht with k | k
  ·exact h.ok t k
  ·rw [mem_singleton.mp k]; exact ⟨hs, g⟩
 ·cases ts with
  | nil => exact absurd rfl h0
  | cons a r => exact h.hd t ht
 ·have k : ws.take (2 * i + 1 + 1 + 1) = ws.take (2 * i + 1) ++ [sgw s, wordOf th] := by
   rw [List.take_succ (i := 2 * i + 1 + 1), e2, List.take_succ (i := 2 * i + 1), e1]
   simp
  rw [my _ h0, h.ws, show 2 * (i + 1) + 1 = 2 * i + 1 + 1 + 1 from by omega, k]
theorem yD.all {ws : List Str} {i : Nat} {ts : List Trm} (h : yD ws i ts) (hl : ws.length = 2 * i + 1) (h6 : i <= 5) : cj ts /\ ws = wordsOf ts := by
 refine ⟨⟨fun z => (by have := h.lo; rw [z] at this; cases this), by have := h.lo; omega, h.ok, h.hd⟩, ?_⟩
 rw [h.ws, take_of_length_le Z1]
end Mine
namespace L2
open PySem PySem.Spec PyProof.Rows PySem.W
theorem Ej {z : Str} {tf : TT} {te : TE} {τ0 : L2.St} {H : Hp} {Fin : List V -> Hp -> Prop} (p : Nat -> Bool) (f : Nat -> V) (hn : z.length <= sizeLine)
  (htf : ∀ c H' Q, aB H H' -> Q (p c) H' -> tf (τ0.set 0 (some (.str ⟨#[c]⟩))) H' Q)
  (hte : ∀ c H' Q, c ∈ z.cps.toList -> aB H H' -> (∀ H'', aB H' H'' -> Q (f c) H'') -> te (τ0.set 0 (some (.str ⟨#[c]⟩))) H' Q)
  (hfin : ∀ H', aB H H' -> Fin ((z.cps.toList.filter p).map f) H') : nT (dI 0) tf te (Its z) τ0 H Fin := by
 have hz : z.cps.size = z.cps.toList.length := by simp
 have hn' : z.cps.toList.length <= sizeLine := by rw [<- hz]; exact hn
 refine ⟨fun i m τ ys H' => m = z.cps.size - i /\ i <= z.cps.size /\ ys = ((z.cps.toList.take i).filter p).map f /\ aB H H' /\ ∃ v, τ = τ0.set 0 v \/ τ = τ0, ⟨z.cps.size, rfl, zero_le _, rfl, aB.refl _, none, .inr rfl⟩, ?_⟩
 rintro i m τ ys H' ⟨rfl, hi, rfl, sm, v, hτ⟩
 by_cases hlt : i < z.cps.size
 ·refine .inr ⟨hlt, fun x H'' y => ?_⟩
  obtain ⟨e, c, hc, y⟩ := y
  subst e y
  have e2 : τ.set 0 (some (V.str ⟨#[c]⟩)) = τ0.set 0 (some (V.str ⟨#[c]⟩)) := by
   rcases hτ with rfl | rfl
   ·rw [set_set]
   ·rfl
  unfold dI
  rw [e2]
  have hl : ((z.cps.toList.take i).filter p).length <= i := le_trans (List.length_filter_le _ _) (by rw [length_take]; omega)
  refine htf c H'' _ sm ?_
  dsimp only
  cases hp : p c with
  | true =>
   rw [if_pos rfl]
   refine hte c H'' _ (mem_of_getElem? hc) sm fun H4 s4 => ?_
   refine ⟨by rw [length_map]; omega, z.cps.size - (i + 1), Z1, rfl, hlt, ?_, sm.trans s4, _, .inl rfl⟩
   rw [take_add_one, hc, List.filter_append, map_append]
   simp [hp]
  | false =>
   rw [if_neg Z0]
   refine ⟨z.cps.size - (i + 1), Z1, rfl, hlt, ?_, sm, _, .inl rfl⟩
   rw [take_add_one, hc, List.filter_append]
   simp [hp]
 ·have e : i = z.cps.size := by omega
  subst e
  exact .inl ⟨le_refl _, by have := hfin H' sm; rw [hz, take_length]; exact this⟩
end L2
namespace Mine
open PySem PySem.Spec PyProof.Rows L2 PySem.Builtin PySem.Builtin.Str
theorem oA {z : Str} : Txt.slice z (some (-2)) none = brk ↔ Txt.endswith z brk = true := by
 by_cases h2 : 2 <= z.length
 ·have := slice_closes_from_neg (x := z) (i := -2) (a := (z.length : Int) - 2) (b := (z.length : Int)) Z0 Z1 Z1 rfl
  have e := eq_of_beq this
  have en : ((z.length : Int) - 2).toNat = z.length - 2 := by omega
  have et : ((z.length : Int) - ((z.length : Int) - 2)).toNat = 2 := by omega
  rw [en, et] at e
  rw [e]
  constructor
  ·intro k
   have k2 := congrArg (fun x : Str => x.cps.toList) k
   simp only [gf] at k2
   have k3 : (z.cps.toList.drop (z.length - 2)).take 2 = [40, 41] := k2
   have hl : (z.cps.toList.drop (z.length - 2)).length <= 2 := by rw [length_drop, <- bQ]; omega
   rw [take_of_length_le hl] at k3
   have ez : z = (⟨(z.cps.toList.take (z.length - 2)).toArray⟩ : Str) ++ brk := dR (by rw [dO, gf, <- k3]; simp)
   rw [ez]; exact lq _
  ·intro k
   obtain ⟨a, rfl⟩ := ends_app k
   apply dR
   rw [bO, iT, gf]
   show ((a ++ brk).cps.toList.drop (a.length + 2 - 2)).take 2 = [40, 41]
   rw [dO, gf, show a.length + 2 - 2 = a.length from by omega, bQ, List.drop_left]; rfl
 ·constructor
  ·intro k
   have := Txt.slice_le z (some (-2)) none
   rw [k, iT] at this
   omega
  ·intro k
   obtain ⟨a, rfl⟩ := ends_app k
   rw [bO, iT] at h2
   omega
theorem De {z : Str} (hf : z.cps.toList.all inF = true) (h : RdW z) : ir z = true := by
 obtain ⟨th, g, e⟩ := h
 cases th with
 | num m => rw [e]; exact (iK g).1
 | nms c ys =>
  obtain ⟨lc, hlc, lo, hi⟩ := oR (fV.lo g) (fV.nm g)
  have : lc ∈ z.cps.toList := by
   rw [e]
   cases c with
   | true => show lc ∈ (dotted ys ++ brk).cps.toList; rw [dO]; exact mem_append_left _ hlc
   | false => exact hlc
  have := Dt.mp (all_eq_true.mp hf lc this)
  omega
section
open PySem PySem.Spec PyProof.Rows L2 PySem.Builtin PySem.Builtin.Str
theorem foldl_size {a : Array Nat} : ∀ (k : Nat) (acc : Array Nat), ((List.replicate k a).foldl (· ++ ·) acc).size = acc.size + k * a.size
 | 0, acc => by simp
 | k + 1, acc => by
  rw [replicate_succ, List.foldl_cons, foldl_size k (acc ++ a), Array.size_append, Nat.add_mul]
  omega
theorem JV {z : Str} (h1 : z.length = 1) {n : Int} (h0 : 0 <= n) (h2 : n <= 6000) : MulOk z n /\ (Txt.mul z n).length <= n.toNat := by
 refine ⟨⟨?_, fun hn _ => ?_, fun hn _ => ?_⟩, ?_⟩
 ·rw [Bool.or_eq_false_iff]; exact ⟨decide_eq_false Z1, decide_eq_false Z1⟩
 ·rw [h1]
  have : (1 : Int) <= (2 ^ 63 - 1) / n := (Int.le_ediv_iff_mul_le Z1).mpr Z1
  omega
 ·rw [h1]
  unfold tooLong
  simp only [decide_eq_false_iff_not]
  have : n.toNat <= 6000 := by omega
  exact fun k => absurd (le_trans (le_of_lt k) (by omega : 1 * n.toNat <= 6000)) Z0
 ·unfold Txt.mul
  split
  ·exact zero_le _
  ·split
   ·rw [h1]; omega
   ·show Array.size _ <= _
    rw [foldl_size]
    have : z.cps.size = 1 := h1
    rw [this]; simp
end
end Mine
namespace L2
open PySem PySem.Spec PyProof.Rows
theorem bf {N P : List Str} {s : Scope} (a : s.kind = .function := by rfl) (b : s.isCoroutine = false := by rfl) (c : s.isGenerator = false := by rfl) (d : N.Nodup := by decide +kernel) (e : N.take P.length = P := by rfl) (f : ∀ x ∈ P, s.names.lookup x = some .local \/ s.names.lookup x = some .cell := by decide +kernel) (g : ∀ y ∈ s.names, y.2 ≠ .free := by decide +kernel) : aK N P s := ⟨a, b, c, d, e, f, g⟩
section
variable {P : Program} {w : World} {K : Frag} {mg : Str -> Option Value} {base : Heap} {C : Nat -> Addr} {f : Addr} {fd : FuncData}
theorem Fun.oq {x qual : Str} {st : Stmt} {f : Addr} {fd : FuncData} {N ps : List Str} {k : Nat} {sp : Sp} (F : Fun K x qual st f fd) (S : aK N ps (aC st))
 (hbody : ∀ (cdv : Value) (A : Around) (outer : List Env) (s : Shared) (H : Hp) (vs : List V) (Q : VK) (E : XK), bh k (A.deeper (envOfC qual (aC st) s.heap.objs.size f cdv)) -> sp vs H Q E -> ∃ t, PSs (nj CX0 P w K mg base N qual (aC st) f cdv A outer s H E).nox (cu st) t /\ t { nx := fun _ H' => Q .non H', rt := Q } (start N vs) H)
 (len : ∀ vs H Q E, sp vs H Q E -> vs.length = ps.length := by intro vs H Q E h; repeat (first | (obtain ⟨rfl, _⟩ := h; rfl) | obtain ⟨_, h⟩ := h)) : aO P w K mg base CX0 (k + 1) f fd ps sp := F.ok S len hbody
theorem Fun.oqX {x qual : Str} {st : Stmt} {f : Addr} {fd : FuncData} {N ps : List Str} {k : Nat} {sp : Sp} (F : Fun K x qual st f fd) (S : aK N ps (aC st))
 (hbody : ∀ (cdv : Value) (A : Around) (outer : List Env) (s : Shared) (H : Hp) (vs : List V) (Q : VK) (E : XK), bh k (A.deeper (envOfC qual (aC st) s.heap.objs.size f cdv)) -> sp vs H Q E -> ∃ t, PSs (nj (CX1 P w) P w K mg base N qual (aC st) f cdv A outer s H E) (cu st) t /\ t { nx := fun _ H' => Q .non H', rt := Q } (start N vs) H)
 (len : ∀ vs H Q E, sp vs H Q E -> vs.length = ps.length := by intro vs H Q E h; repeat (first | (obtain ⟨rfl, _⟩ := h; rfl) | obtain ⟨_, h⟩ := h)) : aO P w K mg base (CX1 P w) (k + 1) f fd ps sp := F.okX S len hbody
end
end L2
namespace Mine
open PySem PySem.Spec PyProof.Rows L2
theorem RM (zs : List Str) : (zs.map V.str).all qH = true := by
 rw [all_eq_true]; intro v hv; obtain ⟨z, _, rfl⟩ := mem_map.mp hv; rfl
theorem YW : (("." : Str)).length <= 1 := by decide +kernel
def top (i : Nat) : Stmt := pw_drawhouse_k22_no_rows.main.body.getD i (.Pass ⟨0, 0, 0, 0⟩)
def Jx : Stmt -> List Stmt
 | .ClassDef _ _ _ b _ _ _ _ _ _ _ => b
 | _ => []
abbrev sb (i j : Nat) : Stmt := (Jx (top i)).getD j (.Pass ⟨0, 0, 0, 0⟩)
abbrev jK : Stmt := top 32
abbrev jC : Stmt := top 33
abbrev gm : Stmt := sb 4 0
abbrev oF : Stmt := top 19
abbrev jD : Stmt := top 20
abbrev iU : Stmt := top 21
abbrev jP : Stmt := top 27
abbrev jJ : Stmt := top 28
abbrev jH : Stmt := top 29
abbrev jT : Stmt := top 30
abbrev jM : Stmt := top 31
abbrev mR : Stmt := top 34
abbrev jb : Stmt := top 44
abbrev dY : Stmt := top 45
abbrev iD : Stmt := top 46
abbrev iI : Stmt := top 47
abbrev n8 : Stmt := top 48
abbrev pW : Stmt := top 49
abbrev pJ : Stmt := top 50
abbrev mW : Stmt := top 51
abbrev gQ : Stmt := sb 36 0
abbrev gF : Stmt := sb 36 1
abbrev qj : Stmt := sb 36 2
abbrev dH : Stmt := sb 37 0
abbrev gA : Stmt := sb 37 1
abbrev iu : Stmt := sb 37 2
abbrev cV : Stmt := sb 38 0
abbrev fc : Stmt := sb 38 1
abbrev gK : Stmt := sb 38 2
abbrev cZ : Stmt := sb 39 0
abbrev fQ : Stmt := sb 39 1
abbrev fU : Stmt := sb 39 2
abbrev gO : Stmt := sb 39 3
abbrev cY : Stmt := sb 40 0
abbrev eZ : Stmt := sb 40 1
abbrev fM : Stmt := sb 40 2
abbrev gH : Stmt := sb 40 3
abbrev dh : Stmt := sb 41 0
abbrev fB : Stmt := sb 41 1
abbrev fu : Stmt := sb 41 2
abbrev gr : Stmt := sb 41 3
abbrev dj : Stmt := sb 42 0
abbrev gB : Stmt := sb 42 1
abbrev mC : Stmt := top 53
abbrev nU : Stmt := top 54
abbrev iM : Stmt := top 55
abbrev jf : Stmt := top 56
abbrev mO : Stmt := top 57
abbrev ju : Stmt := top 58
abbrev gJ : Stmt := top 59
abbrev mZ : Stmt := top 60
abbrev jF : Stmt := top 61
abbrev lJ : Stmt := top 62
abbrev lU : Stmt := top 63
abbrev oK : Stmt := top 64
abbrev m5 : Stmt := top 65
abbrev gR : Stmt := top 66
abbrev gq : Stmt := top 67
abbrev d7 : Stmt := top 68
abbrev pM : Stmt := top 69
abbrev mD : Stmt := top 70
abbrev gP : Stmt := top 71
abbrev dF : Stmt := top 72
abbrev dZ : Stmt := top 73
abbrev mF : Stmt := top 74
abbrev dW : Stmt := top 75
abbrev fJ : Stmt := top 76
abbrev iC : Stmt := top 77
abbrev iZ : Stmt := top 78
abbrev jw : Stmt := top 79
abbrev gM : Stmt := top 80
abbrev jQ : Stmt := top 81
abbrev Gr : Stmt := top 82
def Dd (ns : List Int) (k : Int) : Int := if k < (ns.length : Int) then Builtin.bitAnd (ns.getD k.toNat 0) (1 * 2 ^ (18000 : Int).toNat - 1) else 0
def Cz (K : Frag) : Sp := fun vs H Q _ => ∃ (a : Addr) (ns : List Int) (k : Int), vs = [.ref a, .int k] /\ SqL K H a (ns.map V.int) /\ 0 <= k /\ Pur (.int (Dd ns k)) H Q
section
variable {P : Program} {w : World} {K : Frag} {mg : MG} {base : Heap}
abbrev yh : List Str := ["_law_script", "_law_k"]
theorem Mp : aK ["_law_script", "_law_k"] yh (aC mC) := bf
theorem JN {f : Addr} {fd : FuncData} (F : Fun K "_law_cell" "_law_cell" mC f fd) (hlen : mg "len" = none) : aO P w K mg base CX0 1 f fd yh (Cz K) := by
 refine F.oq Mp fun _ _ _ _ H _ Q E hr h => ?_
 ·obtain ⟨a, ns, k, rfl, hS, h0, q⟩ := h
  refine ⟨_, dz (zQ (aG GP (pv 1) (aF aY Z3 hlen boot_len (aj (pv 0) ak)) (aH _))
    (gC (kW (aJ Hk (aX aP (pv 0) (pv 1)) (aJ qQ (aJ Mz aq aq) aq)))) qJ)
   (gC (kW aq)), ?_⟩
  refine ⟨_, rfl, _, rfl, a, _, rfl, .inl hS, _, _, rfl, rfl, _, rfl, ?_⟩
  rw [length_map]
  refine dm (fun hk => ?_) (fun hk => ?_)
  ·have hk2 : ns[k.toNat]? = some (ns.getD k.toNat 0) := by
    rw [List.getD_eq_getElem?_getD, getElem?_eq_getElem Z1]
    rfl
   have hk3 : (ns.map V.int)[k.toNat]? = some (V.int (ns.getD k.toNat 0)) := by rw [getElem?_map, hk2]; rfl
   have hat : atI (ns.map V.int) k = some (V.int (ns.getD k.toNat 0)) := by
    have := cM hk3
    rwa [show ((k.toNat : Nat) : Int) = k from by omega] at this
   refine ⟨_, rfl, _, rfl, a, _, _, _, rfl, rfl, hS, hat, _, _, rfl, rfl, ⟨Z0, Z0, Z0⟩, _, _, rfl, rfl, _, _, rfl, rfl, ?_⟩
   have e : Dd ns k = Builtin.bitAnd (ns.getD k.toNat 0) (1 * 2 ^ (18000 : Int).toNat - 1) := if_pos hk
   have q' := q H (aB.refl H)
   rw [e] at q'
   exact q'
  ·have e : Dd ns k = 0 := if_neg hk
   have q' := q H (aB.refl H)
   rw [e] at q'
   exact q'
abbrev rZ : List Str := ["_law_cell_here", "_law_j"]
theorem Q8 : aK ["_law_cell_here", "_law_j"] rZ (aC nU) := bf
theorem uN {f : Addr} {fd : FuncData} (F : Fun K "_law_sub" "_law_sub" nU f fd) : aO P w K mg base CX0 1 f fd rZ v9 := by
 refine F.oq Q8 fun _ _ _ _ H _ Q E hr h => ?_
 ·obtain ⟨c, j, rfl, h0, h1, q⟩ := h
  refine ⟨_, dz (zQ (b8 (aG bw (aJ fP (pv 0) aq) aq (aH _)) (bZ (aG jk (aJ qM (pv 0) (aJ cA (aJ ik aq (pv 1)) aq)) aq (aH _)))).pt
    (gC (kW (aJ Wu (aJ qM (pv 0) (aJ ik aq (pv 1))) aq))) qJ)
   (gC (kW (aJ ik (aJ cA (aJ lL (aJ lL (pv 0) aq) (aJ cA (pv 1) aq)) (aJ ik aq (pv 1))) aq))), ?_⟩
  have q' := q H (aB.refl H)
  have tail : sub c j = subB c j -> FQ (tOp (rI FN fun i j => .int (i * j)) (tOp (rI0 fun i j => .int (i + j)) (tOp (rI Ms fun i j => .int (i / j)) (tOp (rI Ms fun i j => .int (i / j)) (vm 0) (tC (.int 2))) (tOp (rI0 fun i j => .int (i + j)) (vm 1) (tC (.int 1)))) (tOp (rI FN fun i j => .int (i * j)) (tC (.int 104729)) (vm 1))) (tC (.int 2)))
    { nx := fun _ H' => Q .non H', rt := Q } (start ["_law_cell_here", "_law_j"] [V.int c, V.int j]) H := fun e => by
   rw [e] at q'
   exact ⟨_, rfl, _, _, rfl, rfl, ⟨Z0, Z0⟩, _, rfl, _, _, rfl, rfl, _, _, rfl, rfl, ⟨Z1, Z1⟩, _, rfl, _, _, rfl, rfl, .inl ⟨Z0, Z0⟩, _, _, rfl, rfl, _, _, rfl, rfl, .inr ⟨Z0, Z0⟩, q'⟩
  refine ⟨_, rfl, _, _, rfl, rfl, (by show (0 : Int) < 2; decide), rfl, _, rfl, ?_⟩
  refine fX (fun hA => ?_) (fun hA => ?_)
  ·refine ⟨_, rfl, _, rfl, _, _, rfl, rfl, .inl ⟨Z0, Z0⟩, _, _, rfl, rfl, _, _, rfl, rfl, (by show (0 : Int) <= 480 * j + 400; omega), _, _, rfl, rfl, _, rfl, ?_⟩
   refine dm (fun hB => ?_) (fun hB => ?_)
   ·have e : sub c j = Wn c j := if_pos ⟨hA, hB⟩
    rw [e] at q'
    exact ⟨_, rfl, _, rfl, _, _, rfl, rfl, .inl ⟨Z0, Z0⟩, _, _, rfl, rfl, (by show (0 : Int) <= 480 * j; omega), _, _, rfl, rfl, q'⟩
   ·exact tail (if_neg fun z => hB z.2)
  ·refine bA ?_
   exact tail (if_neg fun z => hA z.1)
abbrev gh : List Str := ["_law_cell_here", "_law_k", "_law_many"]
theorem qU : aK ["_law_cell_here", "_law_k", "_law_many", "_law_great", "_law_by", "_law_one"] gh (aC jf) := bf
theorem iH {f : Addr} {fd : FuncData} (F : Fun K "_law_pick" "_law_pick" jf f fd) : aO P w K mg base CX0 1 f fd gh jW := by
 refine F.oq qU fun _ _ _ _ H _ Q E hr h => ?_
 ·obtain ⟨c, k, m, rfl, h0, h1, hm, q⟩ := h
  refine ⟨_, dz (zQ (b8 (aG bw (aJ fP (pv 0) aq) aq (aH _)) (bZ (aG jk (aJ qM (pv 0) aq) aq (aH _)))).pt
    (gC (kW (aJ fP (aJ Hk (aJ qM (pv 0) (aJ cA aq (aJ ik aq (pv 1)))) aq) (pv 2)))) qJ)
   (dz (nu (i := 3) qU.nd rfl (Or.inl rfl) aq)
   (dz (nu (i := 4) qU.nd rfl (Or.inl rfl) (aX aP (bC (aj aq (aj aq (aj aq (aj aq (aj aq (aj aq (aj aq (aj aq ak))))))))) (aJ fP (pv 1) aq)))
   (dz (nu (i := 4) qU.nd rfl (Or.inl rfl) (aJ ik (pv 4) (aX aP (bC (aj aq (aj aq (aj aq (aj aq (aj aq ak)))))) (aJ lL (pv 1) aq))))
   (dz (nu (i := 5) qU.nd rfl (Or.inl rfl) (aJ fP (aJ ik (aJ cA (aJ fP (aJ lL (pv 0) aq) (pv 3)) aq) (pv 4)) (pv 3)))
   (dz (nu (i := 5) qU.nd rfl (Or.inl rfl) (aJ fP (aJ ik (pv 5) (pv 5)) aq))
   (gC (kW (aJ fP (aJ lL (aJ fP (aJ ik (aJ cA (aJ cA (pv 5) (pv 1)) aq) (aJ cA (aJ lL (pv 5) aq) aq)) aq) aq) (pv 2))))))))), ?_⟩
  obtain ⟨t1, t2, t3⟩ := Jh (k := k % 8) Z1 Z1
  obtain ⟨u1, u2, u3⟩ := JW (k := k / 8) Z1 Z1
  have a8 : atI (qy.map V.int) (k % 8) = some (V.int (qy.getD (k % 8).toNat 0)) := by
   have := cM (xs := qy.map V.int) (j := (k % 8).toNat) (by rw [getElem?_map, t1]; rfl)
   rwa [show (((k % 8).toNat : Nat) : Int) = k % 8 from by omega] at this
  have a5 : atI (qe.map V.int) (k / 8) = some (V.int (qe.getD (k / 8).toNat 0)) := by
   have := cM (xs := qe.map V.int) (j := (k / 8).toNat) (by rw [getElem?_map, u1]; rfl)
   rwa [show (((k / 8).toNat : Nat) : Int) = k / 8 from by omega] at this
  have g1 := Jl c k
  have g2 := J2 c k
  have g3 := Js c k
  have g4 := Jk c k
  have ms := DY t2 t3 u2 u3
  refine ⟨_, rfl, _, _, rfl, rfl, (by show (0 : Int) < 2; decide), rfl, _, rfl, ?_⟩
  refine fX (fun hA => ?_) (fun hA => ?_)
  ·refine ⟨_, rfl, _, _, rfl, rfl, (by show (0 : Int) <= 400; decide), _, _, rfl, rfl, _, rfl, ?_⟩
   refine dm (fun hB => ?_) (fun hB => ?_)
   ·have e : pick c k m = Ko c k m := if_pos ⟨hA, hB⟩
    have q' := q H (aB.refl H)
    rw [e] at q'
    exact ⟨_, rfl, _, rfl, _, _, rfl, rfl, .inl ⟨Z0, Z0⟩, _, _, rfl, rfl, _, _, rfl, rfl, (by show (0 : Int) <= 1 + 10 * k; omega), _, _, rfl, rfl, _, rfl, _, _, rfl, rfl, hm, q'⟩
   ·have e : pick c k m = G8 c k m := if_neg fun z => hB z.2
    refine ⟨by show 8 <= sizeLine; decide, fun p hp => ?_⟩
    refine ⟨_, rfl, _, _, rfl, rfl, (by show (0 : Int) < 8; decide), p, qy.map V.int, _, _, rfl, rfl, SqL.of ao, a8, ?_⟩
    refine ⟨_, rfl, (by show 5 <= sizeLine; decide), fun p2 hp2 => ?_⟩
    refine ⟨_, rfl, _, _, rfl, rfl, ⟨Z0, Z0⟩, p2, qe.map V.int, _, _, rfl, rfl, SqL.of ao, a5, _, _, rfl, rfl, .inl ⟨Z1, Z1⟩, ?_⟩
    refine ⟨_, rfl, _, _, rfl, rfl, ⟨Z0, Z0⟩, _, rfl, _, _, rfl, rfl, (by show (0 : Int) < 2305843009213693951; decide), _, _, rfl, rfl, _, rfl, _, _, rfl, rfl, .inr ⟨Z1, Z1⟩, _, rfl, _, _, rfl, rfl, (by show (0 : Int) < 2305843009213693951; decide), ?_⟩
    refine ⟨_, rfl, _, rfl, _, _, rfl, rfl, .inl ⟨(by show -(2 ^ 64) < zm c k; omega), (by show zm c k < 2 ^ 64; omega)⟩, _, _, rfl, rfl, (by show (0 : Int) < 1000000000039; decide), ?_⟩
    refine ⟨_, rfl, _, rfl, _, _, rfl, rfl, _, _, rfl, rfl, _, rfl, _, _, rfl, rfl, ⟨Z0, Z0⟩, _, _, rfl, rfl, _, _, rfl, rfl, .inl ⟨(by show -(2 ^ 64) < zN c k + k + 1; omega), (by show zN c k + k + 1 < 2 ^ 64; omega)⟩, _, _, rfl, rfl, (by show (0 : Int) < 67280421310721; decide), _, _, rfl, rfl, ⟨Z0, Z0⟩, _, rfl, _, _, rfl, rfl, hm, ?_⟩
    rw [e] at q
    exact q _ ((aB.new hp).put hp2)
  ·refine bA ?_
   have e : pick c k m = G8 c k m := if_neg fun z => hA z.1
   refine ⟨by show 8 <= sizeLine; decide, fun p hp => ?_⟩
   refine ⟨_, rfl, _, _, rfl, rfl, (by show (0 : Int) < 8; decide), p, qy.map V.int, _, _, rfl, rfl, SqL.of ao, a8, ?_⟩
   refine ⟨_, rfl, (by show 5 <= sizeLine; decide), fun p2 hp2 => ?_⟩
   refine ⟨_, rfl, _, _, rfl, rfl, ⟨Z0, Z0⟩, p2, qe.map V.int, _, _, rfl, rfl, SqL.of ao, a5, _, _, rfl, rfl, .inl ⟨Z1, Z1⟩, ?_⟩
   refine ⟨_, rfl, _, _, rfl, rfl, ⟨Z0, Z0⟩, _, rfl, _, _, rfl, rfl, (by show (0 : Int) < 2305843009213693951; decide), _, _, rfl, rfl, _, rfl, _, _, rfl, rfl, .inr ⟨Z1, Z1⟩, _, rfl, _, _, rfl, rfl, (by show (0 : Int) < 2305843009213693951; decide), ?_⟩
   refine ⟨_, rfl, _, rfl, _, _, rfl, rfl, .inl ⟨(by show -(2 ^ 64) < zm c k; omega), (by show zm c k < 2 ^ 64; omega)⟩, _, _, rfl, rfl, (by show (0 : Int) < 1000000000039; decide), ?_⟩
   refine ⟨_, rfl, _, rfl, _, _, rfl, rfl, _, _, rfl, rfl, _, rfl, _, _, rfl, rfl, ⟨Z0, Z0⟩, _, _, rfl, rfl, _, _, rfl, rfl, .inl ⟨(by show -(2 ^ 64) < zN c k + k + 1; omega), (by show zN c k + k + 1 < 2 ^ 64; omega)⟩, _, _, rfl, rfl, (by show (0 : Int) < 67280421310721; decide), _, _, rfl, rfl, ⟨Z0, Z0⟩, _, rfl, _, _, rfl, rfl, hm, ?_⟩
   rw [e] at q
   exact q _ ((aB.new hp).put hp2)
abbrev wX : List Str := ["_law_cell_here"]
theorem Hf : aK ["_law_cell_here", "_law_letters"] wX (aC mO) := bf
theorem Jr {f fp : Addr} {fd fdp : FuncData} (F : Fun K "_law_name" "_law_name" mO f fd) (A1 : FnAt K mg "_law_pick" jf gh fp fdp) (hrg : mg "range" = none) : aO P w K mg base CX0 2 f fd wX Gz := by
 have G1 : aO P w K mg base CX0 1 fp fdp gh jW := iH A1.F
 refine F.oq Hf fun _ _ _ _ H _ Q E hr h => ?_
 ·obtain ⟨c, rfl, q⟩ := h
  have hr1 : bh 1 _ := hr
  refine ⟨_, dz (nu (i := 1) Hf.nd rfl (Or.inr rfl) aA)
   (gC (kW (dU plainAttrs_str slot_str_join type_str_join m6 aA
    (aj (dX (N := ["_law_j", "_law_letters", "_law_cell_here"]) [none, some 1, some 0] rfl Z5
     (lA Z3 hrg (aj (aJ cA aq (aU A1 G1 hr1 (aj (pv 0) (aj aq (aj aq ak))))) ak))
     (fun cl C fp s H => bj (i := 0) (by decide +kernel : (["_law_j", "_law_letters", "_law_cell_here"] : List Str).Nodup) rfl (Or.inl rfl)) (fun cl C fp s H => fL)
     (fun cl C fp s H => aX yo (pv 1) (aU A1 G1 hr1 (aj (pv 2) (aj (aJ cA aq (pv 0)) (aj aq ak)))) (fun _ _ => rfl))) ak)))), ?_⟩
  refine ⟨rfl, ?_⟩
  refine ⟨_, rfl, c, 30, 8, rfl, Z0, Z0, Z0, fun H1 s1 => ?_⟩
  have b1 := cP c 30 (m := 8) Z0
  have b2 := cN c 30 (m := 8) Z0
  refine ⟨_, _, rfl, rfl, _, rfl, Z1, Z1, ?_⟩
  refine Av (fun j => V.str ⟨#[letter c j]⟩) (le_trans (show (1 + pick c 30 8).toNat <= 8 by omega) Z0) (fun i H' Q' hi sm k' => ?_) (fun τ H Q Q' hh h => hh _ _ h) (fun H' sm => ?_)
  ·refine ⟨rfl, ?_⟩
   have l1 := cP c (31 + (0 + (i : Int))) (m := 26) Z0
   have l2 := cN c (31 + (0 + (i : Int))) (m := 26) Z0
   have li : i < (1 + pick c 30 8).toNat := hi
   refine ⟨_, rfl, _, rfl, _, rfl, _, _, rfl, rfl, c, 31 + (0 + (i : Int)), 26, rfl, Z1, Z1, Z0, fun H2 s2 => ?_⟩
   have lat : atI letters.cps.toList (pick c (31 + (0 + (i : Int))) 26) = some (97 + (pick c (31 + (0 + (i : Int))) 26).toNat) := by
    have := cM (An l1 l2)
    rwa [show (((pick c (31 + (0 + (i : Int))) 26).toNat : Nat) : Int) = pick c (31 + (0 + (i : Int))) 26 from by omega] at this
   refine ⟨letters, _, _, rfl, rfl, Z4, lat, ?_⟩
   have e : V.str ⟨#[97 + (pick c (31 + (0 + (i : Int))) 26).toNat]⟩ = V.str ⟨#[letter c i]⟩ := by
    unfold letter
    rw [show (0 + (i : Int)) = (i : Int) from by omega]
   rw [e]
   exact k' H2 s2
  ·intro p hp
   refine ⟨_, p, (List.range (1 + pick c 30 8).toNat).map fun (j : Nat) => (⟨#[letter c (j : Int)]⟩ : Str), rfl, rfl, .inl (SqL.of ?_), ?_, ?_⟩
   ·rw [map_map]
    exact ao
   ·have h1 : ∀ y ∈ (List.range (1 + pick c 30 8).toNat).map fun (j : Nat) => (⟨#[letter c (j : Int)]⟩ : Str), y.length <= 1 := fun y hy => by
     obtain ⟨j, _, rfl⟩ := mem_map.mp hy
     exact le_refl 1
    have h2 := pD h1
    rw [length_map, length_range] at h2
    have h3 : (("" : Str)).length = 0 := by decide +kernel
    rw [length_map, length_range, h3]
    omega
   ·rw [Gh, yp]
    exact q _ ((s1.trans sm).put hp)
end
section
variable {P : Program} {w : World} {K : Frag} {mg : MG} {base : Heap}
abbrev qG : List Str := ["_law_cell_here", "_law_far"]
theorem Hr : aK ["_law_cell_here", "_law_far"] qG (aC iM) := bf
theorem Eb {f : Addr} {fd : FuncData} (F : Fun K "_law_number" "_law_number" iM f fd) : aO P w K mg base CX0 1 f fd qG zT := by
 refine F.oq Hr fun _ _ _ _ H _ Q E hr h => ?_
 ·obtain ⟨c, far, rfl, h0, q⟩ := h
  refine ⟨_, dz (zQ (b8 (aG bw (aJ fP (pv 0) aq) aq (aH _)) (bZ (aG jk (aJ qM (pv 0) aq) aq (aH _)))).pt
    (gC (kW (aJ fP (aJ qM (pv 0) aq) (pv 1)))) qJ)
   (gC (kW (aJ fP (aJ lL (pv 0) aq) (pv 1)))), ?_⟩
  have q' := q H (aB.refl H)
  refine ⟨_, rfl, _, _, rfl, rfl, (by show (0 : Int) < 2; decide), rfl, _, rfl, ?_⟩
  refine fX (fun hA => ?_) (fun hA => ?_)
  ·refine ⟨_, rfl, _, _, rfl, rfl, (by show (0 : Int) <= 400; decide), _, _, rfl, rfl, _, rfl, ?_⟩
   refine dm (fun hB => ?_) (fun hB => ?_)
   ·have e : number c far = c / 2 ^ (400 : Int).toNat % far := if_pos ⟨hA, hB⟩
    rw [e] at q'
    exact ⟨_, rfl, _, _, rfl, rfl, (by show (0 : Int) <= 400; decide), _, rfl, _, _, rfl, rfl, h0, q'⟩
   ·have e : number c far = c / 2 % far := if_neg fun z => hB z.2
    rw [e] at q'
    exact ⟨_, rfl, _, _, rfl, rfl, ⟨Z0, Z0⟩, _, rfl, _, _, rfl, rfl, h0, q'⟩
  ·refine bA ?_
   have e : number c far = c / 2 % far := if_neg fun z => hA z.1
   rw [e] at q'
   exact ⟨_, rfl, _, _, rfl, rfl, ⟨Z0, Z0⟩, _, rfl, _, _, rfl, rfl, h0, q'⟩
end
abbrev jR : List Str := ["kind", "thing"]
theorem rH : aK ["kind", "thing", "path"] jR (aC jK) := bf
abbrev eV : List Str := ["terms"]
theorem gU : aK ["terms", "shown", "sign", "kind", "thing"] eV (aC jC) := bf
abbrev du : List Str := ["self", "at"]
theorem vo : aK ["self", "at"] du (aC gm) := bf
abbrev fZ : List Str := ["thing"]
theorem Em : aK ["thing"] fZ (aC oF) := bf
abbrev ie : List Str := ["text", "most"]
theorem rP : aK ["text", "most", "names"] ie (aC jD) := bf
abbrev fH : List Str := ["thing"]
theorem ye : aK ["thing"] fH (aC iU) := bf
abbrev jx : List Str := ["word"]
theorem zG : aK ["word"] jx (aC jP) := bf
abbrev jz : List Str := ["word"]
theorem zj : aK ["word"] jz (aC jJ) := bf
abbrev jN : List Str := ["sign", "word"]
theorem Ad : aK ["sign", "word"] jN (aC jH) := bf
abbrev jG : List Str := ["word"]
theorem yX : aK ["word"] jG (aC jT) := bf
abbrev jB : List Str := ["text"]
theorem jO : aK ["text", "words", "terms", "at"] jB (aC jM) := bf
abbrev mY : List Str := ["terms"]
theorem Bc : aK ["terms"] mY (aC mR) := bf
abbrev iQ : List Str := ["words"]
theorem xj : aK ["words"] iQ (aC jb) := bf
abbrev d9 : List Str := ["words"]
theorem sE : aK ["words"] d9 (aC dY) := bf
abbrev iY : List Str := ["words"]
theorem xQ : aK ["words"] iY (aC iD) := bf
abbrev iz : List Str := ["words", "at"]
theorem yQ : aK ["words", "at"] iz (aC iI) := bf
abbrev oG : List Str := ["name", "terms"]
theorem Er : aK ["name", "terms"] oG (aC n8) := bf
abbrev qI : List Str := ["words"]
theorem zP : aK ["words", "first"] qI (aC pW) := bf
abbrev pY : List Str := ["text", "at"]
theorem zF : aK ["text", "at", "row"] pY (aC pJ) := bf
abbrev jg : List Str := ["text"]
theorem BJ : aK ["text"] jg (aC mW) := bf
abbrev lR : List Str := ["self"]
theorem yC : aK ["self"] lR (aC gQ) := bf
abbrev mQ : List Str := ["self"]
theorem yJ : aK ["self"] mQ (aC gF) := bf
abbrev zu : List Str := ["self"]
abbrev jA : List Str := ["self", "name", "terms"]
theorem zg : aK ["self", "name", "terms"] jA (aC dH) := bf
abbrev lY : List Str := ["self"]
theorem yu : aK ["self"] lY (aC gA) := bf
abbrev nD : List Str := ["self"]
theorem Ae : aK ["self"] nD (aC iu) := bf
abbrev iy : List Str := ["self", "name", "terms"]
theorem yr : aK ["self", "name", "terms"] iy (aC cV) := bf
abbrev kh : List Str := ["self"]
theorem vB : aK ["self"] kh (aC fc) := bf
abbrev mK : List Str := ["self"]
theorem xU : aK ["self"] mK (aC gK) := bf
abbrev iJ : List Str := ["self", "address", "name"]
theorem yz : aK ["self", "address", "name"] iJ (aC cZ) := bf
abbrev jY : List Str := ["self"]
theorem vH : aK ["self"] jY (aC fQ) := bf
abbrev kY : List Str := ["self"]
theorem vM : aK ["self"] kY (aC fU) := bf
abbrev mj : List Str := ["self"]
theorem yL : aK ["self"] mj (aC gO) := bf
abbrev iG : List Str := ["self", "address", "name"]
theorem yF : aK ["self", "address", "name"] iG (aC cY) := bf
abbrev jX : List Str := ["self"]
theorem vL : aK ["self"] jX (aC eZ) := bf
abbrev kI : List Str := ["self"]
theorem vR : aK ["self"] kI (aC fM) := bf
abbrev lK : List Str := ["self"]
theorem xY : aK ["self"] lK (aC gH) := bf
abbrev iR : List Str := ["self", "word", "address", "name"]
theorem xN : aK ["self", "word", "address", "name"] iR (aC dh) := bf
abbrev kO : List Str := ["self"]
theorem vO : aK ["self"] kO (aC fB) := bf
abbrev kJ : List Str := ["self"]
theorem vI : aK ["self"] kJ (aC fu) := bf
abbrev lX : List Str := ["self"]
theorem xn : aK ["self"] lX (aC gr) := bf
abbrev iB : List Str := ["self", "terms"]
theorem yx : aK ["self", "terms"] iB (aC dj) := bf
abbrev lQ : List Str := ["self"]
theorem yU : aK ["self"] lQ (aC gB) := bf
abbrev lO : List Str := ["_law_cell_here"]
theorem Cr : aK ["_law_cell_here", "_law_some"] lO (aC ju) := bf
abbrev oJ : List Str := ["_law_cell_here"]
theorem Eh : aK ["_law_cell_here"] oJ (aC gJ) := bf
abbrev yS : List Str := ["_law_cell_here", "_law_first"]
theorem ug : aK ["_law_cell_here", "_law_first", "_law_sign", "_law_way", "_law_far", "_law_names"] yS (aC mZ) := bf
abbrev tD : List Str := ["_law_cell_here"]
theorem JK : aK ["_law_cell_here"] tD (aC jF) := bf
abbrev yg : List Str := ["_law_term_here"]
theorem xK : aK ["_law_term_here", "_law_sign", "_law_sort", "_law_thing"] yg (aC lJ) := bf
abbrev xP : List Str := ["_law_terms_here"]
theorem xm : aK ["_law_terms_here", "_law_text_here", "_law_term_here"] xP (aC lU) := bf
abbrev Do : List Str := ["_law_cell_here", "_law_name_here"]
theorem zJ : aK ["_law_cell_here", "_law_name_here", "_law_sort", "_law_terms_here"] Do (aC oK) := bf
abbrev uM : List Str := ["_law_row_here"]
theorem qY : aK ["_law_row_here", "_law_sort", "_law_name_here", "_law_address_here", "_law_word_here", "_law_terms_here"] uM (aC m5) := bf
abbrev oE : List Str := ["_law_found"]
theorem Cv : aK ["_law_found"] oE (aC gR) := bf
abbrev qz : List Str := ["_law_found", "_law_due"]
theorem Gd : aK ["_law_found", "_law_due"] qz (aC gq) := bf
abbrev mU : List Str := ["_law_found", "_law_due"]
theorem Az : aK ["_law_found", "_law_due"] mU (aC d7) := bf
abbrev Jj : List Str := ["_law_found", "_law_row_here"]
theorem wZ : aK ["_law_found", "_law_row_here", "_law_sort", "_law_name_here", "_law_address_here", "_law_word_here", "_law_terms_here", "_law_flags", "_law_due"] Jj (aC pM) := bf
abbrev xV : List Str := ["_law_found", "_law_row_here"]
theorem uv : aK ["_law_found", "_law_row_here", "_law_due", "_law_binds", "_law_asked", "_law_said_here"] xV (aC mD) := bf
abbrev jm : List Str := ["_law_text_here"]
theorem zr : aK ["_law_text_here", "_law_sign"] jm (aC gP) := bf
abbrev jy : List Str := ["_law_text_here"]
theorem rR : aK ["_law_text_here", "_law_names"] jy (aC dF) := bf
abbrev lN : List Str := ["_law_word_here", "_law_sign"]
theorem gj : aK ["_law_word_here", "_law_sign", "_law_figures", "_law_sort", "_law_names"] lN (aC dZ) := bf
abbrev uK : List Str := ["_law_words"]
theorem xF : aK ["_law_words", "_law_terms_here", "_law_k", "_law_term_here"] uK (aC mF) := bf
abbrev mX : List Str := ["_law_words"]
theorem uB : aK ["_law_words", "_law_terms_here"] mX (aC dW) := bf
abbrev oh : List Str := ["_law_text_here"]
theorem wM : aK ["_law_text_here", "_law_words"] oh (aC fJ) := bf
abbrev qL : List Str := ["_law_words", "_law_cell_here"]
theorem lC : aK ["_law_words", "_law_cell_here", "_law_at", "_law_way", "_law_some", "_law_word_here"] qL (aC iC) := bf
abbrev ql : List Str := ["_law_text_here", "_law_cell_here"]
theorem lD : aK ["_law_text_here", "_law_cell_here", "_law_signs", "_law_at", "_law_sign", "_law_way"] ql (aC iZ) := bf
abbrev tM : List Str := ["_law_e"]
theorem tK : aK ["_law_e", "_law_some"] tM (aC jw) := bf
abbrev lE : List Str := ["_law_thing"]
theorem vU : aK ["_law_thing", "_law_e"] lE (aC gM) := bf
abbrev tU : List Str := ["_law_text_here"]
theorem Du : aK ["_law_text_here", "_law_due"] tU (aC jQ) := bf
abbrev J7 : List Str := ["_law_script"]
theorem rM : aK ["_law_script", "_law_k", "_law_cell_here", "_law_text_here", "_law_worded_here", "_law_one", "_law_odd"] J7 (aC Gr) := bf
section
variable {P : Program} {w : World} {K : Frag} {mg : MG} {base : Heap}
def J4 : Sp := fun vs H Q _ => ∃ z : Str, vs = [.str z] /\ z.length <= 10000 /\ Pur (.bl (ir z)) H Q
def HY : Sp := fun vs H Q _ => ∃ (c : Int) (b : Bool), vs = [.int c, .bl b] /\ ∀ v H' t, aB H H' -> m9 t -> (b = true -> t.sg = 1) -> eY H' v t -> Q v H'
def HS : Sp := fun vs H Q _ => ∃ (v : V) (t : Trm), vs = [v] /\ eY H v t /\ m9 t /\ Pur (.str (wordOf t.th)) H Q
def qZ : Sp := fun vs H Q _ => ∃ (l : Addr) (ts : List Trm), vs = [.ref l] /\ eU H l ts /\ cj ts /\ Pur (.str (textOf ts)) H Q
def Iz : Sp := fun vs H Q _ => ∃ i : Int, vs = [.int i] /\ Pur (.bl true) H Q
def zf : Sp := fun vs H Q _ => ∃ (x y : V) (t : Trm), vs = [x, y] /\ eY H x t /\ eY H y t /\ Pur (.bl true) H Q
def ut : Sp := fun vs H Q _ => ∃ (l r : Addr) (ts : List Trm), vs = [.ref l, .ref r] /\ eU H l ts /\ eU H r ts /\ ts.length <= 10 /\ Pur (.bl true) H Q
def Df (K : Frag) : Sp := fun vs H Q _ => ∃ (a : Addr) (ns : List Int), vs = [.ref a] /\ SqL K H a (ns.map V.int) /\ ns.length <= 63 /\ ∀ H', Q (.bl true) H'
theorem xJ {α : Type} {xs : List α} {c k : Int} (h : 0 < xs.length) : ∃ v, atI xs (pick c k (xs.length : Int)) = some v /\ v ∈ xs := by
 have h1 := cP c k (m := (xs.length : Int)) Z1
 have h2 := cN c k (m := (xs.length : Int)) Z1
 have hl : (pick c k (xs.length : Int)).toNat < xs.length := by omega
 refine ⟨xs[(pick c k (xs.length : Int)).toNat], ?_, getElem_mem hl⟩
 have := cM (getElem?_eq_getElem hl)
 rwa [show (((pick c k (xs.length : Int)).toNat : Nat) : Int) = pick c k (xs.length : Int) from by omega] at this
theorem Dv (c : Int) {far : Int} (h : 0 < far) : 0 <= number c far := by unfold number; split <;> exact emod_nonneg _ Z1
theorem Eg (c : Int) {far : Int} (h : 0 < far) : number c far < far := by unfold number; split <;> exact emod_lt_of_pos _ h
theorem DP {n : Nat} (h : n <= 11) : Builtin.Range.small 1 (n : Int) 2 = true := by
 have k : ∀ m : Fin 12, Builtin.Range.small 1 ((m.val : Nat) : Int) 2 = true := by decide +kernel
 exact k ⟨n, Z1⟩
theorem ou : (((" " : Str)).length == 0) = false := by decide +kernel
theorem cX : 1000 <= sizeLine := by decide
def xg : Sp := fun vs H Q _ => ∃ (x : V) (th : Thg), vs = [.str (kindOf th), x] /\ oW H x th /\ km th /\ Pur (.str (wordOf th)) H Q
theorem YD {c : Bool} {x y : V} {σ : L2.St} {H : Hp} {Q : VK} (h : Q (if c = true then x else y) H) : if c = true then tC x σ H Q else tC y σ H Q := by cases c <;> exact h
theorem K1 (s : Int) : (if decide (V.int s = V.int 1) = true then V.str "+" else V.str "-") = V.str (sgw s) := by
 unfold sgw
 by_cases h : s = 1
 ·rw [decide_eq_true (congrArg V.int h), if_pos h]; rfl
 ·rw [decide_eq_false (fun e => h (V.int.inj e)), if_neg h]; rfl
theorem Ea (ts : List Trm) : Txt.join (" " : Str) (wordsOf ts) = textOf ts := by
 rw [blank_eq]
 exact StrLaws.glued_eq_join _ _
theorem uh : ((" " : Str)).length = 1 := by decide +kernel
def pQ : Sp := fun vs H Q _ => ∃ c : Int, vs = [.int c] /\ ∀ z, dq z -> Pur (.str z) H Q
def Hz : Sp := fun vs H Q _ => ∃ c : Int, vs = [.int c] /\ ∀ ys, oM ys -> Pur (.str (dotted ys)) H Q
def yZ : Sp := fun vs H Q _ => ∃ c : Int, vs = [.int c] /\ ∀ l H' ts, H l = none -> aB H H' -> cj ts -> eU H' l ts -> Q (.ref l) H'
def Kp : Sp := fun vs H Q _ => ∃ (c : Int) (z : Str), vs = [.int c, .str z] /\ dq z /\ ∀ v lt H' r, GoodR r -> aB H H' -> H lt = none -> Ar H' v lt r -> Q v H'
def xH (C : Nat -> Addr) (i : Nat) : Sp := fun vs H Q _ => ∃ (x dx : Addr) (r : cL) (d : Addr), vs = [.ref x, .str r.nm, .ref d] /\ r.so = i /\ H x = some (.ins (C i) dx []) /\ eU H d r.ts /\ r.ts.length <= 10 /\
 ∀ l H', H l = none -> SameBut x H H' -> gY C H' x l r -> Q .non H'
def yq (C : Nat -> Addr) (i : Nat) : Sp := fun vs H Q _ => ∃ (x dx : Addr) (r : cL), vs = [.ref x, .str r.ad, .str r.nm] /\ r.so = i /\ H x = some (.ins (C i) dx []) /\ ∀ H', SameBut x H H' -> (∀ l, gY C H' x l r) -> Q .non H'
def Ga (C : Nat -> Addr) : Sp := fun vs H Q _ => ∃ (x dx : Addr) (r : cL), vs = [.ref x, .str r.wd, .str r.ad, .str r.nm] /\ r.so = 4 /\ H x = some (.ins (C 4) dx []) /\ ∀ H', SameBut x H H' -> (∀ l, gY C H' x l r) -> Q .non H'
def GF (C : Nat -> Addr) : Sp := fun vs H Q _ => ∃ (x dx : Addr) (r : cL) (d : Addr), vs = [.ref x, .ref d] /\ r.so = 5 /\ H x = some (.ins (C 5) dx []) /\ eU H d r.ts /\ r.ts.length <= 10 /\
 ∀ l H', H l = none -> SameBut x H H' -> gY C H' x l r -> Q .non H'
def Hv : Sp := fun vs H Q _ => ∃ v : V, vs = [v] /\ Pur (.str "") H Q
def yN : Sp := fun vs H Q _ => ∃ v : V, vs = [v] /\ ∀ b H', H b = none -> aB H H' -> H' b = some (.lst []) -> Q (.ref b) H'
def spB (C : Nat -> Addr) (i : Nat) : Sp := fun vs H Q _ => ∃ (a l : Addr) (r : cL), vs = [.ref a] /\ r.so = i /\ gY C H a l r /\ Pur (.str r.nm) H Q
def spA (C : Nat -> Addr) (i : Nat) : Sp := fun vs H Q _ => ∃ (a l : Addr) (r : cL), vs = [.ref a] /\ r.so = i /\ gY C H a l r /\ ∀ b H', H b = none -> aB H H' -> H' b = some (.lst [.str r.ad]) -> Q (.ref b) H'
def spS (C : Nat -> Addr) (i : Nat) : Sp := fun vs H Q _ => ∃ (a l : Addr) (r : cL), vs = [.ref a] /\ r.so = i /\ gY C H a l r /\ GoodR r /\ Pur (.str (cG r)) H Q
structure SQ (K : Frag) (C : Nat -> Addr) : Prop where
 c : ∀ i, i <= 6 -> RCl K (C i)
 kit : ∀ i j, i <= 6 -> j <= 6 -> kitOne K (.ref (C i)) (.ref (C j)) = some (jV i j)
 nn : ∀ i, i <= 6 -> dB K (C i) "name"
 nt : ∀ i, i <= 6 -> dB K (C i) "terms"
 na : ∀ i, i <= 6 -> dB K (C i) "address"
 nw : ∀ i, i <= 6 -> dB K (C i) "word"
theorem JG {z : Str} (h : (decide (1 <= z.length) && decide (z.length <= 8) && z.cps.toList.all fun n => decide (97 <= n) && decide (n <= 122)) = true) : dq z := by
 simp only [and_eq_true, decide_eq_true_eq, all_eq_true] at h
 exact ⟨h.1.1, h.1.2, fun n hn => h.2 n hn⟩
theorem GJ {v : V} (h : v ∈ [V.str "let", V.str "deed", V.str "be", V.str "draw", V.str "late", V.str "as", V.str "take", V.str "from", V.str "need", V.str "part"]) : ∃ z, v = .str z /\ dq z := by
 simp only [mem_cons, not_mem_nil, or_false] at h
 rcases h with rfl | rfl | rfl | rfl | rfl | rfl | rfl | rfl | rfl | rfl
 all_goals exact ⟨_, rfl, JG Z4⟩
theorem K9 {xs : List V} {ys : List Str} (hl : ys.length = xs.length) (h : ∀ (i : Nat) v, xs[i]? = some v -> ∃ z, ys[i]? = some z /\ v = .str z) : xs = ys.map V.str := by
 apply List.ext_getElem?
 intro i
 rw [getElem?_map]
 cases e : xs[i]? with
 | none =>
  have e2 : ys[i]? = none := by
   rw [List.getElem?_eq_none_iff] at e ⊢
   omega
  rw [e2]; rfl
 | some v =>
  obtain ⟨z, ez, rfl⟩ := h i v e
  rw [ez]; rfl
theorem zc {xs : List V} (h : ∀ (i : Nat) v, xs[i]? = some v -> ∃ z, v = V.str z /\ dq z) : ∃ ys : List Str, ys.length = xs.length /\ xs = ys.map V.str /\ ∀ y ∈ ys, dq y := by
 obtain ⟨ys, hyl, hys⟩ := nJ (fun _ v z => v = V.str z /\ dq z) xs 0 (fun i v e => h i v e)
 refine ⟨ys, hyl, K9 hyl fun i v e => ?_, fun y hy => ?_⟩
 ·obtain ⟨z, ez, rz, _⟩ := hys i v e
  exact ⟨z, ez, rz⟩
 ·obtain ⟨i, hi, e⟩ := List.getElem_of_mem hy
  have hx : xs[i]? = some (xs[i]'Z1) := getElem?_eq_getElem Z1
  obtain ⟨z, ez, _, nz⟩ := hys i _ hx
  rw [getElem?_eq_getElem hi, e] at ez
  cases ez
  exact nz
theorem oW.unc {H : Hp} {x : V} {th : Thg} (h : oW H x th) : oW H x (Lx th) := by
 cases th with
 | num m => exact h
 | nms c ys => exact h
theorem sF (i j : Nat) (h : jV i j = false := by rfl) (hi : i <= 5 := by decide) (hj : j <= 5 := by decide) : decide (V.str (bT i) = V.str (bT j)) = false := (uH hi hj).trans h
theorem sT (i : Nat) : decide (V.str (bT i) = V.str (bT i)) = true := decide_eq_true rfl
theorem J1 {i : Nat} {x : V} (h : ([V.str "let", V.str "deed", V.str "draw", V.str "late", V.str "take", V.str "need"] : List V)[i]? = some x) : i <= 5 /\ x = V.str (bT i) := by
 match i, h with
 | 0, h => cases h; exact ⟨Z0, rfl⟩
 | 1, h => cases h; exact ⟨Z0, rfl⟩
 | 2, h => cases h; exact ⟨Z0, rfl⟩
 | 3, h => cases h; exact ⟨Z0, rfl⟩
 | 4, h => cases h; exact ⟨Z0, rfl⟩
 | 5, h => cases h; exact ⟨Z0, rfl⟩
 | n + 6, h => simp at h
theorem six {n : Nat} (h : n <= 5) : n = 0 \/ n = 1 \/ n = 2 \/ n = 3 \/ n = 4 \/ n = 5 := by
 cases n with
 | zero => exact .inl rfl
 | succ n => cases n with
  | zero => exact .inr (.inl rfl)
  | succ n => cases n with
   | zero => exact .inr (.inr (.inl rfl))
   | succ n => cases n with
    | zero => exact .inr (.inr (.inr (.inl rfl)))
    | succ n => cases n with
     | zero => exact .inr (.inr (.inr (.inr (.inl rfl))))
     | succ n => cases n with
      | zero => exact .inr (.inr (.inr (.inr (.inr rfl))))
      | succ n => exact absurd h Z1
theorem DN {k : Int} (h0 : 0 <= k) (h1 : k < 6) : atI [V.str "let", V.str "deed", V.str "draw", V.str "late", V.str "take", V.str "need"] k = some (V.str (bT k.toNat)) := by
 obtain ⟨n, rfl⟩ := Int.eq_ofNat_of_zero_le h0
 have hn : n <= 5 := by omega
 rcases six hn with rfl | rfl | rfl | rfl | rfl | rfl <;> rfl
def dal : List V := [V.str "draw", V.str "late", V.str "take"]
def inD (i : Nat) : Bool := decide (i = 2) || decide (i = 3) || decide (i = 4)
theorem qW {i : Nat} (h : i <= 5) : inV (V.str (bT i)) dal = inD i := by
 have k : ∀ i : Fin 6, inV (V.str (bT i.val)) dal = inD i.val := by decide +kernel
 exact k ⟨i, Z1⟩
theorem K8 {r : cL} (h : r.so <= 5) {k : Bool} (hk : k = inV (V.str (bT r.so)) dal) : (List.replicate (if k = true then (1 : Int) else 0).toNat [V.str r.ad]).flatten = (iw r).map V.str := by
 obtain ⟨so, nn, aa, ww, tt⟩ := r
 have h' : so <= 5 := h
 have hk' : k = inD so := hk.trans (qW h')
 subst hk'
 rcases six h' with rfl | rfl | rfl | rfl | rfl | rfl <;> rfl
theorem Ed {x : V} (k : Bool) : ([x] : List V).length * (if k = true then (1 : Int) else 0).toNat <= sizeLine := by
 cases k
 ·show 1 * 0 <= sizeLine; decide
 ·show 1 * 1 <= sizeLine; decide
theorem Mw (k : Bool) : -(2 ^ 63) <= (if k = true then (1 : Int) else 0) := by cases k <;> decide
theorem KC (k : Bool) : (if k = true then (1 : Int) else 0) < 2 ^ 63 := by cases k <;> decide
theorem d8 {H : Hp} {C x dx : Addr} (hx : H x = none) (hdx : H dx = none) : aB H (upd (upd H dx (.own x)) x (.ins C dx [])) := fun b o e => by
 rw [aR (aQ e hx), aR (aQ e hdx)]
 exact e
theorem Vc : (("let" : Str) ++ (" " : Str)) = "let " := by decide +kernel
theorem LQ : (("deed" : Str) ++ (" " : Str)) = "deed " := by decide +kernel
theorem K5 : (("draw" : Str) ++ (" " : Str)) = "draw " := by decide +kernel
theorem Mr : (("late" : Str) ++ (" " : Str)) = "late " := by decide +kernel
theorem dJ : ((" " : Str)).length = 1 := by decide +kernel
theorem xT : (bT 0).length = 3 := by decide +kernel
theorem tH : (bT 1).length = 4 := by decide +kernel
theorem sZ : (bT 2).length = 4 := by decide +kernel
theorem sW : (bT 3).length = 4 := by decide +kernel
def isCall (t : Trm) : Bool := match t.th with | .nms c _ => c | .num _ => false
theorem wU (t : Trm) : decide (V.str (kindOf t.th) = V.str "call") = isCall t := by
 unfold isCall
 cases t.th with
 | num m => exact decide_eq_false (by show ¬ V.str "number" = V.str "call"; decide +kernel)
 | nms c ys =>
  cases c
  ·exact decide_eq_false (by show ¬ V.str "path" = V.str "call"; decide +kernel)
  ·exact decide_eq_true rfl
def Km : Sp := fun vs H Q _ => ∃ (l : Addr) (ts : List Trm), vs = [.ref l] /\ eU H l ts /\ ts.length <= 10 /\ Pur (.bl (ts.any isCall)) H Q
theorem any_range {ts : List Trm} : ((List.range ts.length).map fun i => (ts[i]?).elim false isCall).any id = ts.any isCall := by
 have e : (List.range ts.length).map (fun i => (ts[i]?).elim false isCall) = ts.map isCall := by
  apply ext_getElem
  ·simp
  ·intro i h1 h2
   have : i < ts.length := by simpa using h1
   simp [this]
 rw [e, any_map]
 rfl
def BX (C : Nat -> Addr) (H : Hp) (r : cL) (Q : VK) : Prop := ∀ a l H', aB H H' -> H a = none -> H l = none -> gY C H' a l r -> Q (.ref a) H'
theorem Je {r : cL} (g : GoodR r) (h : r.so = 1) : r.ts.any isCall = false := by
 rw [any_eq_false]
 intro t ht k
 unfold isCall at k
 cases e : t.th with
 | num m => rw [e] at k; cases k
 | nms c ys =>
  rw [e] at k
  cases c with
  | true => exact g.dd h t ht ys e
  | false => cases k
theorem rY {x y : Str} (h : y ∈ Txt.split x (" " : Str)) : y.length <= x.length := by rw [blank_eq] at h; exact vy h
def tY (C : Addr) : Sp := fun vs H Q _ => ∃ (x : Addr) (n : Int), vs = [.ref x, .int n] /\ H x = some (ExO true x C none) /\ n.natAbs.log2 < 1920 /\ ∀ p, H p = none -> p ≠ x -> Q .non (upd (upd H p (XdO p [("at", .int n)])) x (ExO true x C (some p)))
structure Kc (K : Frag) (C : Nat -> Addr) : Prop where
 x : qR K (C 22)
 a : dB K (C 22) "at"
 s21 : Sub K (C 21) (C 21)
 s22 : Sub K (C 22) (C 20)
 k : ∀ j, 20 <= j -> j <= 33 -> kitOne K (.ref (C 22)) (.ref (C j)) = some (decide (j = 22 \/ j = 20))
 v : kitOne K (.ref (C 22)) (.type "ValueError") = some true
def Xx (D : Addr) (H : Hp) (E : XK) : Prop := ∀ x H', aB H H' -> H x = none -> H' x = some (ExO false x D none) -> E (.ref x) none H'
theorem Xx.on {D : Addr} {H H1 : Hp} {E : XK} (h : Xx D H E) (s : aB H H1) : Xx D H1 E := fun x H' s' hx e => h x H' (s.trans s') (s.free hx) e
theorem Xx.go {D x : Addr} {H : Hp} {E : XK} (h : Xx D H E) (hx : H x = none) : E (.ref x) none (upd (upd H x (ExO true x D none)) x (ExO false x D none)) :=
 h x _ (fun b o e => by rw [aR (aQ e hx), aR (aQ e hx)]; exact e) hx ao
def lg : Sp := fun vs H Q _ => ∃ z : Str, vs = [.str z] /\ z.length <= 6000 /\ Pur (.bl (nmB z)) H Q
def Ak : Sp := fun vs H Q _ => ∃ (z : Str) (m : Nat), vs = [.str z, .int m] /\ z.length <= 6000 /\ Pur (.bl (cF m z)) H Q
def tV : Sp := fun vs H Q _ => ∃ z : Str, vs = [.str z] /\ z.length <= 6000 /\ Pur (.bl (cF 3 z)) H Q
def Dn (C : Nat -> Addr) : Sp := fun vs H Q E => ∃ z : Str, vs = [.str z] /\ z.length <= 6000 /\ (∀ ys, fV ys -> z = dotted ys -> ∀ p H', aB H H' -> H' p = some (.tup (ys.map V.str)) -> Q (.ref p) H') /\ (cF 4 z = false -> Xx (C 21) H E)
def Ac (C : Nat -> Addr) : Sp := fun vs H Q E => ∃ (sg : Int) (z : Str), vs = [.int sg, .str z] /\ z.length <= 6000 /\ (∀ th, km th -> z = wordOf th -> ∀ v H', aB H H' -> eY H' v ⟨sg, th⟩ -> Q v H') /\ (¬ RdW z -> Xx (C 21) H E)
def Cg (C : Nat -> Addr) : Sp := fun vs H Q E => ∃ z : Str, vs = [.str z] /\ (∀ s : Int, (s = 1 \/ s = -1) -> z = sgw s -> Pur (.int s) H Q) /\ ((¬ ∃ s : Int, (s = 1 \/ s = -1) /\ z = sgw s) -> Xx (C 21) H E)
def Dr (C : Nat -> Addr) : Sp := fun vs H Q E => ∃ z : Str, vs = [.str z] /\ z.length <= 6000 /\ (∀ ts, cj ts -> Txt.split z (" " : Str) = wordsOf ts -> ∀ l H', H l = none -> aB H H' -> eU H' l ts -> Q (.ref l) H') /\ (¬ RdE (Txt.split z (" " : Str)) -> Xx (C 21) H E)
theorem Ji {a b : Str} (ha : a.length <= 1000) (hb : b.length <= 6000) : (a ++ b).length <= sizeLine := by
 rw [bO]; exact le_trans (show a.length + b.length <= 7000 by omega) Z0
theorem uc (c : Nat) : ∀ {W : List (List Nat)}, W ≠ [] -> (inter c W).length + 1 = (W.map List.length).sum + W.length
 | [], h => absurd rfl h
 | [x], _ => by simp [inter]
 | x :: y :: r, _ => by
  have ih := uc c (W := y :: r) Z2
  rw [Bs c x Z2, length_append, length_cons, map_cons, List.sum_cons, length_cons (as := y :: r)]
  omega
theorem qi (ys : List Str) : Txt.join (" " : Str) ys = Str.join ⟨#[32]⟩ ys := by
 rw [blank_eq]
 exact StrLaws.glued_eq_join _ ys
theorem pL {ys : List Str} (h : ys ≠ []) : (Txt.join (" " : Str) ys).length + 1 = (ys.map (·.length)).sum + ys.length := by
 rw [qi, bQ, eG, uc 32 (by simpa using h), map_map, length_map]
 have e : ys.map (List.length ∘ fun x : Str => x.cps.toList) = ys.map (·.length) := List.map_congr_left fun y _ => (bQ y).symm
 rw [e]
def Wd (ws : List Str) : Prop := ∃ z0 : Str, z0.length <= 6000 /\ ws = Txt.split z0 (" " : Str)
theorem Wd.ne {ws : List Str} (h : Wd ws) : ws ≠ [] := by obtain ⟨z, _, rfl⟩ := h; rw [blank_eq]; exact nF _ _
theorem Wd.free {ws : List Str} (h : Wd ws) {w : Str} (hw : w ∈ ws) : 32 ∉ w.cps.toList := by
 obtain ⟨z, _, rfl⟩ := h; rw [blank_eq] at hw; exact StrLaws.split_free _ 32 w hw
theorem Wd.len {ws : List Str} (h : Wd ws) {w : Str} (hw : w ∈ ws) : w.length <= 6000 := by
 obtain ⟨z, hz, rfl⟩ := h; exact le_trans (rY hw) hz
theorem Wd.sum {ws : List Str} (h : Wd ws) : (ws.map (·.length)).sum + ws.length <= 6001 := by
 have hn := h.ne
 obtain ⟨z, hz, e⟩ := h
 have := pL hn
 rw [qi, e, blank_eq, StrLaws.join_split] at this
 rw [e, blank_eq]; omega
theorem Wd.drop {ws : List Str} (h : Wd ws) (k : Nat) : ((ws.drop k).map (·.length)).sum + (ws.drop k).length <= 6001 := by
 have := h.sum
 rw [<- List.take_append_drop k ws, map_append, List.sum_append, length_append] at this
 omega
theorem uU {ws : List Str} (h : Wd ws) {k : Nat} (hn : ws.drop k ≠ []) : Txt.split (Txt.join (" " : Str) (ws.drop k)) (" " : Str) = ws.drop k := by
 rw [qi, blank_eq]
 exact uV 32 _ hn fun y hy => h.free (List.mem_of_mem_drop hy)
theorem Li {ws : List Str} (h : RdE ws) : ws ≠ [] := fun z => by have := (mJ h).1; rw [z] at this; cases this
theorem Gj : ¬ RdW "" := lZ Z4 Z4 Z4
theorem V5 : Txt.split (Txt.join (" " : Str) []) (" " : Str) = [("" : Str)] := by decide +kernel
theorem Gg : ¬ RdE [("" : Str)] := fun h => Gj (lB h (i := 0) rfl)
def J8 (C : Nat -> Addr) : Sp := fun vs H Q E => ∃ (l : Addr) (k : Nat) (ws : List Str), vs = [.ref l, .int (k : Int)] /\ H l = some (.lst (ws.map V.str)) /\ Wd ws /\ (∀ ts, cj ts -> ws.drop k = wordsOf ts -> ∀ l' H', H l' = none -> aB H H' -> eU H' l' ts -> Q (.ref l') H') /\ (¬ RdE (ws.drop k) -> Xx (C 21) H E)
def wAt (ws : List Str) (i : Nat) : Str := (ws[i]?).getD ""
def neB (ws : List Str) : Bool := decide (3 < ws.length) && (nmB (wAt ws 1) && decide (wAt ws 2 = "be"))
def naB (ws : List Str) : Bool := decide (ws.length = 4) && (cF 3 (wAt ws 1) && (decide (wAt ws 2 = "as") && nmB (wAt ws 3)))
def nwB (ws : List Str) : Bool := decide (ws.length = 6) && (decide (wAt ws 2 = "from") && (decide (wAt ws 4 = "as") && (nmB (wAt ws 1) && (cF 3 (wAt ws 3) && nmB (wAt ws 5)))))
def Ke : Sp := fun vs H Q _ => ∃ (l : Addr) (ws : List Str), vs = [.ref l] /\ H l = some (.lst (ws.map V.str)) /\ Wd ws /\ Pur (.bl (neB ws)) H Q
def Kw : Sp := fun vs H Q _ => ∃ (l : Addr) (ws : List Str), vs = [.ref l] /\ H l = some (.lst (ws.map V.str)) /\ Wd ws /\ Pur (.bl (naB ws)) H Q
def Ka : Sp := fun vs H Q _ => ∃ (l : Addr) (ws : List Str), vs = [.ref l] /\ H l = some (.lst (ws.map V.str)) /\ Wd ws /\ Pur (.bl (nwB ws)) H Q
theorem cW {ws : List Str} {i : Nat} (h : i < ws.length) : wAt ws i ∈ ws := by unfold wAt; rw [getElem?_eq_getElem h]; exact getElem_mem h
theorem aZ {ws : List Str} {i : Nat} (h : i < ws.length) : atI (ws.map V.str) ((i : Nat) : Int) = some (V.str (wAt ws i)) := cM (by rw [getElem?_map, getElem?_eq_getElem h]; unfold wAt; rw [getElem?_eq_getElem h]; rfl)
theorem jt {a b : Str} : decide (V.str a = V.str b) = decide (a = b) := by
 by_cases h : a = b
 ·rw [decide_eq_true h, decide_eq_true (congrArg V.str h)]
 ·rw [decide_eq_false h, decide_eq_false fun k => h (V.str.inj k)]
theorem mL {n m : Nat} : decide (V.int (n : Int) = V.int (m : Int)) = decide (n = m) := by
 by_cases h : n = m
 ·rw [decide_eq_true h, decide_eq_true (by rw [h])]
 ·rw [decide_eq_false h, decide_eq_false fun k => h (by have := V.int.inj k; omega)]
def RdR (ws : List Str) : Prop := ∃ r, GoodR r /\ ws = lM r
def a1 : Str := "a"
theorem Fx : dq a1 := lF.mp Z4
theorem Mj : ∃ ys, oM ys /\ a1 = dotted ys := ⟨[a1], ⟨Z2, Z0, fun y hy => by rw [mem_singleton.mp hy]; exact Fx⟩, Z4⟩
def t1 : List Trm := [⟨1, .num 0⟩]
theorem Ow : cj t1 := ⟨by simp [t1], Z0, fun t ht => by rw [mem_singleton.mp ht]; exact ⟨.inl rfl, by show 0 < 10 ^ 20; decide⟩, fun t ht => by cases ht; rfl⟩
theorem Fz {nn : Str} {ts : List Trm} (h : dq nn) (g : cj ts) : GoodR ⟨0, nn, a1, a1, ts⟩ := ⟨(show 0 <= 5 by decide), (fun _ => h), (fun z => by cases z), Mj, Fx, g, (fun z => by cases z)⟩
theorem CG {nn : Str} {ts : List Trm} (h : dq nn) (g : cj ts) (hc : ∀ t ∈ ts, isCall t = false) : GoodR ⟨1, nn, a1, a1, ts⟩ := ⟨(show 1 <= 5 by decide), (fun _ => h), (fun z => by cases z), Mj, Fx, g, fun _ t ht ys e => by have := hc t ht; unfold isCall at this; rw [e] at this; cases this⟩
theorem tE {so : Nat} {nn : Str} {ys : List Str} (hs : so = 2 \/ so = 3) (h : dq nn) (g : oM ys) : GoodR ⟨so, nn, dotted ys, a1, t1⟩ := ⟨(by show so <= 5; omega), (fun _ => h), (fun z => by have : so = 5 := z; omega), ⟨ys, g, rfl⟩, Fx, Ow, (fun z => by have : so = 1 := z; omega)⟩
theorem Cp {nn ww : Str} {ys : List Str} (h : dq nn) (hw : dq ww) (g : oM ys) : GoodR ⟨4, nn, dotted ys, ww, t1⟩ := ⟨(show 4 <= 5 by decide), (fun _ => h), (fun z => by cases z), ⟨ys, g, rfl⟩, hw, Ow, (fun z => by cases z)⟩
theorem BV {ts : List Trm} (g : cj ts) : GoodR ⟨5, "", a1, a1, ts⟩ := ⟨(show 5 <= 5 by decide), (fun z => absurd z (by show ¬ 5 < 5; decide)), (fun _ => rfl), Mj, Fx, g, (fun z => by cases z)⟩
theorem nM {ws : List Str} (h : neB ws = true) : 3 < ws.length /\ dq (wAt ws 1) /\ ws = wAt ws 0 :: wAt ws 1 :: "be" :: ws.drop 3 := by
 unfold neB at h
 simp only [and_eq_true, decide_eq_true_eq] at h
 obtain ⟨h3, h1, h2⟩ := h
 refine ⟨h3, lF.mp h1, ?_⟩
 match ws, h3, h2 with
 | a :: b :: c :: d :: r, _, h2 => rw [show c = "be" from h2]; rfl
theorem Us {z : Str} (h : cF 3 z = true) : ∃ ys, oM ys /\ z = dotted ys := by
 obtain ⟨ys, a, b, c, e⟩ := CW h
 exact ⟨ys, ⟨a, b, c⟩, e⟩
theorem uQ {ws : List Str} (h : naB ws = true) : ws.length = 4 /\ ∃ ys, oM ys /\ wAt ws 1 = dotted ys /\ dq (wAt ws 3) /\ ws = [wAt ws 0, dotted ys, "as", wAt ws 3] := by
 unfold naB at h
 simp only [and_eq_true, decide_eq_true_eq] at h
 obtain ⟨h4, h1, h2, h3⟩ := h
 obtain ⟨ys, g, e⟩ := Us h1
 refine ⟨h4, ys, g, e, lF.mp h3, ?_⟩
 rw [<- e]
 match ws, h4, h2 with
 | [a, b, c, d], _, h2 => rw [show c = "as" from h2]; rfl
theorem Af {ws : List Str} (h : nwB ws = true) : ws.length = 6 /\ ∃ ys, oM ys /\ wAt ws 3 = dotted ys /\ dq (wAt ws 1) /\ dq (wAt ws 5) /\ ws = [wAt ws 0, wAt ws 1, "from", dotted ys, "as", wAt ws 5] := by
 unfold nwB at h
 simp only [and_eq_true, decide_eq_true_eq] at h
 obtain ⟨h6, h2, h4, h1, h3, h5⟩ := h
 obtain ⟨ys, g, e⟩ := Us h3
 refine ⟨h6, ys, g, e, lF.mp h1, lF.mp h5, ?_⟩
 rw [<- e]
 match ws, h6, h2, h4 with
 | [a, b, c, d, e, f], _, h2, h4 => rw [show c = "from" from h2, show e = "as" from h4]; rfl
theorem bR {ws : List Str} (h : RdR ws) : (wAt ws 0 = "let" /\ neB ws = true /\ RdE (ws.drop 3)) \/ (wAt ws 0 = "deed" /\ neB ws = true /\ ∃ ts, cj ts /\ ws.drop 3 = wordsOf ts /\ ∀ t ∈ ts, isCall t = false) \/ (wAt ws 0 = "draw" /\ naB ws = true) \/ (wAt ws 0 = "late" /\ naB ws = true) \/ (wAt ws 0 = "take" /\ nwB ws = true) \/ (wAt ws 0 = "need" /\ RdE (ws.drop 1)) := by
 obtain ⟨⟨so, nn, aa, ww, tt⟩, g, rfl⟩ := h
 have h5 : so <= 5 := g.so
 have gt : cj tt := g.ts
 have gw : nmB ww = true := (g.wd).nmB
 obtain ⟨ys, ga, ea⟩ := g.ad
 have gp : cF 3 aa = true := by rw [show aa = dotted ys from ea]; exact zz ga.lo ga.hi ga.nm
 have ln : ∀ w0 w1 w2 : Str, 3 < (w0 :: w1 :: w2 :: wordsOf tt).length := fun w0 w1 w2 => by
  have := length_pos_iff.mpr (uz gt.lo)
  simp only [length_cons]; omega
 rcases six h5 with rfl | rfl | rfl | rfl | rfl | rfl
 ·refine .inl ⟨rfl, ?_, tt, gt, rfl⟩
  show (decide (3 < (("let" : Str) :: nn :: "be" :: wordsOf tt).length) && (nmB nn && decide (("be" : Str) = "be"))) = true
  rw [decide_eq_true (ln _ _ _), (g.nm (show 0 < 5 by decide)).nmB, decide_eq_true rfl]; rfl
 ·refine .inr (.inl ⟨rfl, ?_, tt, gt, rfl, fun t ht => ?_⟩)
  ·show (decide (3 < (("deed" : Str) :: nn :: "be" :: wordsOf tt).length) && (nmB nn && decide (("be" : Str) = "be"))) = true
   rw [decide_eq_true (ln _ _ _), (g.nm (show 1 < 5 by decide)).nmB, decide_eq_true rfl]; rfl
  ·exact any_eq_false.mp (Je g rfl) t ht |> fun z => by simpa using z
 ·refine .inr (.inr (.inl ⟨rfl, ?_⟩))
  show (true && (cF 3 aa && (decide (("as" : Str) = "as") && nmB nn))) = true
  rw [gp, (g.nm (show 2 < 5 by decide)).nmB, decide_eq_true rfl]; rfl
 ·refine .inr (.inr (.inr (.inl ⟨rfl, ?_⟩)))
  show (true && (cF 3 aa && (decide (("as" : Str) = "as") && nmB nn))) = true
  rw [gp, (g.nm (show 3 < 5 by decide)).nmB, decide_eq_true rfl]; rfl
 ·refine .inr (.inr (.inr (.inr (.inl ⟨rfl, ?_⟩))))
  show (true && (decide (("from" : Str) = "from") && (decide (("as" : Str) = "as") && (nmB ww && (cF 3 aa && nmB nn))))) = true
  rw [gp, gw, (g.nm (show 4 < 5 by decide)).nmB, decide_eq_true rfl, decide_eq_true rfl]; rfl
 ·exact .inr (.inr (.inr (.inr (.inr ⟨rfl, tt, gt, rfl⟩))))
def J6 (C : Nat -> Addr) : Sp := fun vs H Q _ => ∃ (nn : Str) (d : Addr) (ts : List Trm), vs = [.str nn, .ref d] /\ cj ts /\ eU H d ts /\ (ts.any isCall = false -> BX C H ⟨1, nn, a1, a1, ts⟩ Q) /\ (ts.any isCall = true -> Pur .non H Q)
def Kd (C : Nat -> Addr) : Sp := fun vs H Q E => ∃ (l : Addr) (ws : List Str), vs = [.ref l] /\ H l = some (.lst (ws.map V.str)) /\ Wd ws /\ (∀ r, GoodR r -> ws = lM r -> BX C H r Q) /\ (¬ RdR ws -> Pur .non H Q /\ Xx (C 21) H E)
def Xt (C : Nat -> Addr) (i : Int) (H : Hp) (E : XK) : Prop := ∀ x p H', aB H H' -> H x = none -> H' x = some (ExO false x (C 22) (some p)) -> H' p = some (XdO p [("at", .int i)]) -> E (.ref x) none H'
theorem Xt.go {C : Nat -> Addr} {i : Int} {H H1 : Hp} {E : XK} {x p : Addr} (h : Xt C i H E) (s : aB H H1) (hx : H1 x = none) (hp : upd H1 x (ExO true x (C 22) none) p = none) (hne : p ≠ x) :
  E (.ref x) none (upd (upd (upd (upd H1 x (ExO true x (C 22) none)) p (XdO p [("at", .int i)])) x (ExO true x (C 22) (some p))) x (ExO false x (C 22) (some p))) := by
 have hp1 : H1 p = none := by rw [aR hne] at hp; exact hp
 refine h x p _ (fun b o e => ?_) (s.free hx) ao (by rw [aR hne, aR hne]; exact ao)
 have e1 := s b o e
 have nx := aQ e1 hx
 have np := aQ e1 hp1
 rw [aR nx, aR nx, aR np, aR nx]
 exact e1
def Kh (C : Nat -> Addr) : Sp := fun vs H Q E => ∃ (z : Str) (i : Int), vs = [.str z, .int i] /\ z.length <= 6000 /\ i.natAbs.log2 < 1920 /\ (∀ r, GoodR r -> Txt.split z (" " : Str) = lM r -> BX C H r Q) /\ (¬ RdR (Txt.split z (" " : Str)) -> Xt C i H E)
theorem Aj {X : Cx} {K' : Frag} {W : L2.St -> XK} {d : Addr} {ck : Nat} {cp pos : Pos} {e : Expr} {te : TE} (hK : X.K = K') (hw : ph X W) (hh : X.A.handled = some (.ref d)) (he : PE X e te) : QS X (.Raise (some e) (some (.Constant .none ck cp)) pos) (Dj K' d W te) := by
 subst hK; exact Ey hw hh he
def Ab (K : Frag) (H : Hp) (v : V) : Prop := ∃ t, nP K H v t /\ kitOne K t (.type "str") = some false
theorem ktx {K : Frag} {n : String} (h0 : (Value.type n == Value.type "str") = false) (h2 : (fastBuiltinMro n).map (·.contains (Value.type "str")) = some false) : kitOne K (.type n) (.type "str") = some false := Ax h0 Z4 h2
theorem Hm {K : Frag} {H : Hp} : Ab K H .non := ⟨_, .non, ktx Z4 Z4⟩
theorem uA {K : Frag} {H : Hp} {i : Int} : Ab K H (.int i) := ⟨_, .int i, ktx Z4 Z4⟩
theorem Ik {K : Frag} {H : Hp} {b : Bool} : Ab K H (.bl b) := ⟨_, .bl b, ktx Z4 Z4⟩
theorem vg {K : Frag} {H : Hp} {a : Addr} {xs : List V} (e : H a = some (.lst xs)) : Ab K H (.ref a) := ⟨_, .lst e, ktx Z4 Z4⟩
theorem Fy {K : Frag} {H : Hp} {a : Addr} {xs : List V} (e : H a = some (.tup xs)) : Ab K H (.ref a) := ⟨_, .tup e, ktx Z4 Z4⟩
theorem Jf {K : Frag} {H : Hp} {a : Addr} {kvs : List (Key × V)} (e : H a = some (.dK kvs)) : Ab K H (.ref a) := ⟨_, .dK e, ktx Z4 Z4⟩
def FJ (K : Frag) (C : Nat -> Addr) : Sp := fun vs H Q E => ∃ v : V, vs = [v] /\ ((∃ z : Str, v = .str z /\ z.length <= 6000 /\ (∀ r, GoodR r -> Txt.split z (" " : Str) = lM r -> BX C H r Q) /\ (¬ RdR (Txt.split z (" " : Str)) -> Xt C 0 H E)) \/ (Ab K H v /\ Xt C 0 H E))
def za (C : Nat -> Addr) : Sp := fun vs H Q _ => ∃ (x p : Addr) (i : Int), vs = [.ref x] /\ H x = some (ExO false x (C 22) (some p)) /\ H p = some (XdO p [("at", .int i)]) /\ Pur (.bl false) H Q
theorem bK {X : Cx} {K : Frag} (h : X.K = K) : fY X (.builtin "isinstance") (GQ K) := by subst h; exact Bg
theorem zU {X : Cx} {K : Frag} {e : Expr} {f : Str} {pos : Pos} {ta : TE} (h : X.K = K) (he : PE X e ta) (hb : attributeBase e f X.env (eval e X.env) = eval e X.env) : PE X (.Attribute e f pos) (Kv K ta f) := by subst h; exact IK he hb
def o9 (K : Frag) : Sp := fun vs H Q _ => ∃ v : V, vs = [v] /\ ((∃ z : Str, v = .str z /\ z.length <= 6000 /\ ¬ RdR (Txt.split z (" " : Str))) \/ Ab K H v) /\ Pur (.bl true) H Q
def Kq : Sp := fun vs H Q _ => ∃ (z : Str) (sg : Int), vs = [.str z, .int sg] /\ z.length <= 6000 /\ (∀ th, km th -> z = wordOf th -> ∀ v H', aB H H' -> eY H' v ⟨sg, th⟩ -> Q v H') /\ (¬ RdW z -> Pur .non H Q)
theorem FT {p : Nat -> Bool} {xs : List Nat} (h : (xs.filter p).length = xs.length) : xs.all p = true := all_eq_true.mpr (List.length_filter_eq_length_iff.mp h)
theorem Hq {p : Nat -> Bool} {xs : List Nat} (h : (xs.filter p).length ≠ xs.length) : xs.all p = false := by
 cases e : xs.all p with
 | false => rfl
 | true => exact absurd (List.length_filter_eq_length_iff.mpr (all_eq_true.mp e)) h
def Fo : Sp := fun vs H Q _ => ∃ (l : Addr) (ws : List Str), vs = [.ref l] /\ H l = some (.lst (ws.map V.str)) /\ (∀ w ∈ ws, w.length <= 6000) /\ ws.length <= 7000 /\ (∀ ts, cj ts -> ws = wordsOf ts -> ∀ l' H', H l' = none -> aB H H' -> eU H' l' ts -> Q (.ref l') H') /\ (¬ RdE ws -> Pur .non H Q)
theorem BK {n : Nat} (h : n <= 11) : Builtin.Range.small 0 (n : Int) 2 = true := by
 have k : ∀ m : Fin 12, Builtin.Range.small 0 ((m.val : Nat) : Int) 2 = true := by decide +kernel
 exact k ⟨n, Z1⟩
def CV (H : Hp) (v : V) (r : cL) : Prop := ∃ p l, v = .ref p /\ H p = some (.tup [.str (bT r.so), .str (if r.so = 5 then "" else r.nm), .str (if r.so = 2 \/ r.so = 3 \/ r.so = 4 then r.ad else ""), .str (if r.so = 4 then r.wd else ""), .ref l]) /\ ((r.so = 0 \/ r.so = 1 \/ r.so = 5) -> eU H l r.ts) /\ (¬ (r.so = 0 \/ r.so = 1 \/ r.so = 5) -> H l = some (.lst []))
def J3 : Sp := fun vs H Q _ => ∃ (l : Addr) (ws : List Str), vs = [.ref l] /\ H l = some (.lst (ws.map V.str)) /\ Wd ws /\ 3 < ws.length /\ (wAt ws 0 = "let" \/ wAt ws 0 = "deed") /\ (∀ r, GoodR r -> ws = lM r -> ∀ v H', aB H H' -> CV H' v r -> Q v H') /\ (¬ RdR ws -> Pur .non H Q)
theorem Wd.of {z : Str} (h : z.length <= 6000) : Wd (Txt.split z (" " : Str)) := ⟨z, h, rfl⟩
theorem Wd.pos {ws : List Str} (h : Wd ws) : 0 < ws.length := length_pos_iff.mpr h.ne
def Dk : Sp := fun vs H Q _ => ∃ z : Str, vs = [.str z] /\ z.length <= 6000 /\ (∀ r, GoodR r -> Txt.split z (" " : Str) = lM r -> ∀ v H', aB H H' -> CV H' v r -> Q v H') /\ (¬ RdR (Txt.split z (" " : Str)) -> Pur .non H Q)
def uG (H : Hp) (v : V) (lt : Addr) (r : cL) : Prop := ∃ p aa ww, v = .ref p /\ H p = some (.tup [.str (bT r.so), .str r.nm, .str aa, .str ww, .ref lt]) /\ (r.so = 2 \/ r.so = 3 \/ r.so = 4 -> aa = r.ad) /\ (r.so = 4 -> ww = r.wd) /\ (r.so = 0 \/ r.so = 1 \/ r.so = 5 -> eU H lt r.ts)
theorem uG.same {H H' : Hp} {v : V} {lt : Addr} {r : cL} (h : uG H v lt r) (s : aB H H') : uG H' v lt r := by
 obtain ⟨p, aa, ww, e, hp, h1, h2, t⟩ := h
 exact ⟨p, aa, ww, e, s _ _ hp, h1, h2, fun k => (t k).same s⟩
theorem Ar.tg {H : Hp} {v : V} {lt : Addr} {r : cL} (h : Ar H v lt r) : uG H v lt r := by
 obtain ⟨p, e, hp, t⟩ := h
 exact ⟨p, _, _, e, hp, fun _ => rfl, fun _ => rfl, fun _ => t⟩
theorem CV.tg {H : Hp} {v : V} {r : cL} (h : CV H v r) (g : GoodR r) : ∃ lt, uG H v lt r := by
 obtain ⟨p, l, e, hp, t, _⟩ := h
 have en : (if r.so = 5 then ("" : Str) else r.nm) = r.nm := by
  by_cases k : r.so = 5
  ·rw [if_pos k, g.no k]
  ·rw [if_neg k]
 rw [en] at hp
 exact ⟨l, p, _, _, e, hp, fun k => if_pos k, fun k => if_pos k, t⟩
def yK : Sp := fun vs H Q _ => ∃ (v : V) (lt : Addr) (r : cL), vs = [v] /\ uG H v lt r /\ GoodR r /\ Pur (.str (cG r)) H Q
def Di (C : Nat -> Addr) : Sp := fun vs H Q _ => ∃ (a l : Addr) (v : V) (lt : Addr) (r : cL), vs = [.ref a, v] /\ gY C H a l r /\ uG H v lt r /\ GoodR r /\ Pur (.bl true) H Q
theorem Ij {r : cL} {aa : Str} (h : r.so <= 5) (ha : r.so = 2 \/ r.so = 3 \/ r.so = 4 -> aa = r.ad) {k : Bool} (hk : k = inV (V.str (bT r.so)) dal) : (List.replicate (if k = true then (1 : Int) else 0).toNat [V.str aa]).flatten = (iw r).map V.str := by
 by_cases h2 : r.so = 2 \/ r.so = 3 \/ r.so = 4
 ·rw [ha h2]; exact K8 h hk
 ·have e0 : iw r = [] := if_neg h2
  have ek : k = false := by
   rw [hk, qW h]; unfold inD
   rw [decide_eq_false fun z => h2 (.inl z), decide_eq_false fun z => h2 (.inr (.inl z)), decide_eq_false fun z => h2 (.inr (.inr z))]; rfl
  rw [e0, ek]; rfl
def zq : Sp := fun vs H Q _ => ∃ z : Str, vs = [.str z] /\ z.length <= 6000 /\ Pur (.bl true) H Q
theorem Fg {i j : Nat} (hi : i <= 5) (hj : j <= 5) (e : bT i = bT j) : i = j := by
 have := uH hi hj
 rw [decide_eq_true (congrArg V.str e)] at this
 unfold jV at this
 rw [decide_eq_false (show ¬ j = 6 by omega), Bool.or_false] at this
 exact of_decide_eq_true this.symm
theorem wj {r : cL} (g : GoodR r) : (lM r).head? = some (bT r.so) := by
 obtain ⟨so, nn, aa, ww, tt⟩ := r
 rcases six (show so <= 5 from g.so) with rfl | rfl | rfl | rfl | rfl | rfl <;> rfl
theorem Ff {C : Nat -> Addr} {H : Hp} {a l : Addr} {r s : cL} (g : GoodR r) (h : GoodR s) (e : lM s = lM r) (ra : gY C H a l s) : gY C H a l r := by
 have e0 : s.so = r.so := Fg h.so g.so (Option.some.inj ((wj h).symm.trans ((congrArg List.head? e).trans (wj g))))
 obtain ⟨dx, fs, ha, hf⟩ := ra
 obtain ⟨so, nn, aa, ww, tt⟩ := r
 obtain ⟨so2, nn2, aa2, ww2, tt2⟩ := s
 obtain rfl : so2 = so := e0
 have gt : cj tt := g.ts
 have ht : cj tt2 := h.ts
 refine ⟨dx, fs, ha, ?_⟩
 obtain ⟨f1, f2, f3, f4, f5, f6, f7⟩ := hf
 rcases six (show so2 <= 5 from g.so) with rfl | rfl | rfl | rfl | rfl | rfl
 ·have e : ("let" : Str) :: nn2 :: "be" :: wordsOf tt2 = ("let" : Str) :: nn :: "be" :: wordsOf tt := e
  injection e with _ e; injection e with e1 e; injection e with _ e
  have e3 := eQ ht gt e; cases e1; cases e3
  exact ⟨f1, f2, fun k => absurd k (by show ¬ (0 = 2 \/ 0 = 3 \/ 0 = 4); decide), fun k => absurd k (by show ¬ 0 = 4; decide), f5, f6, f7⟩
 ·have e : ("deed" : Str) :: nn2 :: "be" :: wordsOf tt2 = ("deed" : Str) :: nn :: "be" :: wordsOf tt := e
  injection e with _ e; injection e with e1 e; injection e with _ e
  have e3 := eQ ht gt e; cases e1; cases e3
  exact ⟨f1, f2, fun k => absurd k (by show ¬ (1 = 2 \/ 1 = 3 \/ 1 = 4); decide), fun k => absurd k (by show ¬ 1 = 4; decide), f5, f6, f7⟩
 ·have e : [("draw" : Str), aa2, "as", nn2] = [("draw" : Str), aa, "as", nn] := e
  injection e with _ e; injection e with e1 e; injection e with _ e; injection e with e2 e
  cases e1; cases e2
  exact ⟨f1, fun k => absurd k (by show ¬ (2 = 0 \/ 2 = 1 \/ 2 = 5); decide), f3, fun k => absurd k (by show ¬ 2 = 4; decide), f5, f6, f7⟩
 ·have e : [("late" : Str), aa2, "as", nn2] = [("late" : Str), aa, "as", nn] := e
  injection e with _ e; injection e with e1 e; injection e with _ e; injection e with e2 e
  cases e1; cases e2
  exact ⟨f1, fun k => absurd k (by show ¬ (3 = 0 \/ 3 = 1 \/ 3 = 5); decide), f3, fun k => absurd k (by show ¬ 3 = 4; decide), f5, f6, f7⟩
 ·have e : [("take" : Str), ww2, "from", aa2, "as", nn2] = [("take" : Str), ww, "from", aa, "as", nn] := e
  injection e with _ e; injection e with e1 e; injection e with _ e; injection e with e2 e; injection e with _ e; injection e with e3 e
  cases e1; cases e2; cases e3
  exact ⟨f1, fun k => absurd k (by show ¬ (4 = 0 \/ 4 = 1 \/ 4 = 5); decide), f3, f4, f5, f6, f7⟩
 ·have e : ("need" : Str) :: wordsOf tt2 = ("need" : Str) :: wordsOf tt := e
  injection e with _ e
  cases eQ ht gt e
  exact ⟨fun k => absurd k (by show ¬ 5 < 5; decide), f2, fun k => absurd k (by show ¬ (5 = 2 \/ 5 = 3 \/ 5 = 4); decide), fun k => absurd k (by show ¬ 5 = 4; decide), f5, f6, f7⟩
theorem HR {w a b : Str} : inV (V.str w) [V.str a, V.str b] = (decide (w = a) || decide (w = b)) := by
 show ((a == w) || ((b == w) || false)) = _
 have k : ∀ x : Str, (x == w) = decide (w = x) := fun x => by
  by_cases h : w = x
  ·rw [decide_eq_true h]; exact beq_iff_eq.mpr h.symm
  ·rw [decide_eq_false h]; exact beq_eq_false_iff_ne.mpr fun z => h z.symm
 rw [k, k, Bool.or_false]
theorem JM {z : Str} (h : z ≠ "") : 1 <= z.length := by
 rcases Nat.eq_zero_or_pos z.length with e | e
 ·exact absurd (dR (by rw [bQ] at e; rw [List.length_eq_zero_iff.mp e]; decide +kernel)) h
 ·exact e
theorem Jt (k : Bool) : MulOk "a" (if k = true then 1 else 0) := by
 cases k
 ·exact (JV Z4 Z0 Z0).1
 ·exact (JV Z4 Z0 Z0).1
theorem FP {z : Str} : 1 <= (z ++ Txt.mul "a" (if decide (V.str z = V.str "") = true then 1 else 0)).length /\ (z ++ Txt.mul "a" (if decide (V.str z = V.str "") = true then 1 else 0)).length <= z.length + 1 := by
 rw [bO]
 by_cases h : z = ""
 ·subst h
  decide +kernel
 ·rw [decide_eq_false fun k => h (V.str.inj k)]
  have := JM h
  have e : (Txt.mul "a" (if false = true then (1 : Int) else 0)).length = 0 := by decide +kernel
  rw [e]; omega
def yW : Sp := fun vs H Q _ => ∃ (z : Str) (c : Int), vs = [.str z, .int c] /\ z.length <= 5900 /\ ∀ (y : Str) H', y.length <= z.length + 2 -> aB H H' -> Q (.str y) H'
def tot (ws : List Str) : Nat := (ws.map (·.length)).sum + ws.length
theorem cO (a b : List Str) : tot (a ++ b) = tot a + tot b := by unfold tot; rw [map_append, List.sum_append, length_append]; omega
theorem pO (ws : List Str) (n : Nat) : tot (ws.take n) + tot (ws.drop n) = tot ws := by rw [<- cO, List.take_append_drop]
theorem zZ (ws : List Str) (n : Nat) : tot (ws.drop (n + 1)) <= tot (ws.drop n) := by
 have := pO (ws.drop n) 1
 rw [List.drop_drop] at this
 rw [Nat.add_comm] at this
 omega
theorem iV (w : Str) : tot [w] = w.length + 1 := by unfold tot; simp
theorem Jo {ws : List Str} {w : Str} (h : w ∈ ws) : w.length < tot ws := by
 induction ws with
 | nil => cases h
 | cons a r ih =>
  have e : tot (a :: r) = a.length + 1 + tot r := by rw [<- iV a, <- cO]; rfl
  rcases mem_cons.mp h with rfl | k
  ·omega
  ·have := ih k; omega
theorem Ce (ws : List Str) : ws.length <= tot ws := by unfold tot; omega
def zX : Sp := fun vs H Q _ => ∃ (l : Addr) (ws : List Str) (c : Int), vs = [.ref l, .int c] /\ H l = some (.lst (ws.map V.str)) /\ ws ≠ [] /\ tot ws <= 600 /\ ∀ p (ys : List Str) H', aB H H' -> H' p = some (.lst (ys.map V.str)) -> tot ys <= 5800 -> Q (.ref p) H'
theorem Uc {y : Str} {j : Int} (h0 : 0 <= j) (h1 : j <= y.length) : (Txt.slice y none (some j)).length <= j.toNat := by
 rw [eq_of_beq (slice_closes_toL h0 h1), bQ]
 show ((y.cps.toList.drop (0 : Int).toNat).take (j - 0).toNat).toArray.toList.length <= _
 rw [List.toList_toArray, length_take]
 omega
theorem Cu {y : Str} {i : Int} (h0 : 0 <= i) (h1 : i <= y.length) : (Txt.slice y (some i) none).length <= y.length - i.toNat := by
 rw [eq_of_beq (slice_closes_fromL h0 h1 rfl), bQ]
 show ((y.cps.toList.drop i.toNat).take ((y.length : Int) - i).toNat).toArray.toList.length <= _
 rw [List.toList_toArray, length_take]
 omega
theorem J9 {X : Cx} {b : List Stmt} {t : TS} {p : TS -> Prop} (q : QSs X b t) (h : p t) : ∃ W, PSs X b W /\ p W := ⟨t, q.h, h⟩
theorem zM {xs : List V} {k : Int} (h0 : 0 <= k) (h1 : k < xs.length) : ∃ v, atI xs k = some v /\ v ∈ xs := by
 obtain ⟨n, rfl⟩ := Int.eq_ofNat_of_zero_le h0
 have hn : n < xs.length := by omega
 exact ⟨_, cM (getElem?_eq_getElem hn), getElem_mem hn⟩
def wl (n : Int) : List V := [V.str "+", V.str "-", V.str "", V.str "be", V.str "as", V.str "from", V.str "07", V.str (Txt.mul "9" n), V.str "a.b.c.d.e", V.str "a()", V.str "()"] ++ [V.str "a..b", V.str "abcdefghi", V.str "0", V.str "let", V.str "need", V.str "A", V.str "a.b.c.d"]
theorem JL {n : Int} (h0 : 0 <= n) (h1 : n <= 5000) {v : V} (h : v ∈ wl n) : ∃ w, v = .str w /\ w.length <= 5000 := by
 have hm := (JV (z := "9") Z4 h0 Z1).2
 have hs : ∀ w : Str, w.length <= 20 -> w.length <= 5000 := fun w h => by omega
 unfold wl at h
 simp only [List.cons_append, List.nil_append, mem_cons, not_mem_nil, or_false] at h
 rcases h with rfl | rfl | rfl | rfl | rfl | rfl | rfl | rfl | rfl | rfl | rfl | rfl | rfl | rfl | rfl | rfl | rfl | rfl
 all_goals first | exact ⟨_, rfl, hs _ Z4⟩ | exact ⟨_, rfl, Z1⟩
theorem cuts (ws : List Str) (k : Nat) : jj (ws.map V.str) none (some (k : Int)) = (ws.take k).map V.str := by rw [Kz, List.map_take]
theorem Jq (ws : List Str) (k : Nat) : jj (ws.map V.str) (some (k : Int)) none = (ws.drop k).map V.str := by rw [pP, map_drop]
theorem EY {r : cL} (g : GoodR r) : (cG r).length <= 520 := by
 have e1 := g.nl
 have e2 := g.al
 have e3 := g.tl
 have e4 := g.wd.hi
 obtain ⟨so, nn, aa, ww, tt⟩ := r
 have h5 : so <= 5 := g.so
 have e1 : nn.length <= 8 := e1
 have e2 : aa.length <= 36 := e2
 have e3 : (textOf tt).length <= 480 := e3
 have e4 : ww.length <= 8 := e4
 rcases six h5 with rfl | rfl | rfl | rfl | rfl | rfl
 ·rw [FW rfl]; simp only [bO, tR, jU]; omega
 ·rw [Ft rfl]; simp only [bO, qw, jU]; omega
 ·rw [Gv rfl]; simp only [bO, p7, eO]; omega
 ·rw [Gq rfl]; simp only [bO, pZ, eO]; omega
 ·rw [Gi rfl]; simp only [bO, dD, len_from, eO]; omega
 ·rw [Hu rfl]; simp only [bO, u5]; omega
theorem Eo {z : Str} : tot (Txt.split z (" " : Str)) = z.length + 1 := by
 have hn : Txt.split z (" " : Str) ≠ [] := by rw [blank_eq]; exact nF _ _
 have := pL hn
 rw [qi, blank_eq, StrLaws.join_split] at this
 unfold tot
 rw [blank_eq]; omega
theorem Jc {ys : List Str} : (Txt.join (" " : Str) ys).length <= tot ys := by
 by_cases h : ys = []
 ·subst h; decide +kernel
 ·have := pL h; unfold tot; omega
theorem uI {ws : List Str} (h : wAt ws 0 ≠ "let" /\ wAt ws 0 ≠ "deed" /\ wAt ws 0 ≠ "draw" /\ wAt ws 0 ≠ "late" /\ wAt ws 0 ≠ "take" /\ wAt ws 0 ≠ "need") : ¬ RdR ws := fun r => by
 obtain ⟨h0, h1, h2, h3, h4, h5⟩ := h
 rcases bR r with ⟨k, _⟩ | ⟨k, _⟩ | ⟨k, _⟩ | ⟨k, _⟩ | ⟨k, _⟩ | ⟨k, _⟩
 ·exact h0 k
 ·exact h1 k
 ·exact h2 k
 ·exact h3 k
 ·exact h4 k
 ·exact h5 k
theorem Ci {ws : List Str} (h : wAt ws 0 = "need") (n : ¬ RdE (ws.drop 1)) : ¬ RdR ws := fun r => by
 rcases bR r with ⟨k, _⟩ | ⟨k, _⟩ | ⟨k, _⟩ | ⟨k, _⟩ | ⟨k, _⟩ | ⟨k, m⟩ <;> first | exact absurd (h.symm.trans k) Z4 | exact n m
theorem Ln {ws : List Str} (h : wAt ws 0 = "let") (n : ¬ RdE (ws.drop 3)) : ¬ RdR ws := fun r => by
 rcases bR r with ⟨k, _, m⟩ | ⟨k, _⟩ | ⟨k, _⟩ | ⟨k, _⟩ | ⟨k, _⟩ | ⟨k, _⟩ <;> first | exact absurd (h.symm.trans k) Z4 | exact n m
theorem CK {ws : List Str} (h : wAt ws 0 = "deed") {us : List Trm} (g : cj us) (e : ws.drop 3 = wordsOf us) (c : us.any isCall = true) : ¬ RdR ws := fun r => by
 rcases bR r with ⟨k, _⟩ | ⟨k, _, ts, gt, et, hc⟩ | ⟨k, _⟩ | ⟨k, _⟩ | ⟨k, _⟩ | ⟨k, _⟩ <;> first | exact absurd (h.symm.trans k) Z4 | skip
 have := eQ gt g (et.symm.trans e)
 subst this
 rw [any_eq_false.mpr fun t ht => by rw [hc t ht]; decide] at c
 cases c
theorem Gk {c : Bool} {s : Int} {y : Str} (hs : s = 1 \/ s = -1) (h : nmB y = true) : m9 ⟨s, .nms c [y]⟩ := ⟨hs, ⟨Z2, (show 1 <= 4 by decide), fun z hz => by rw [mem_singleton.mp hz]; exact lF.mp h⟩⟩
def no8 : List Str := ["", "need", "deed a be b()", "deed a be b + c()", "need a\n", "row a", "part a", "let a be  1"]
theorem Mh {z : Str} (h : z ∈ no8) : z.length <= 6000 /\ ¬ RdR (Txt.split z (" " : Str)) := by
 unfold no8 at h
 simp only [mem_cons, not_mem_nil, or_false] at h
 have lo : ∀ {z : Str}, z.length <= 20 -> z.length <= 6000 := fun h => by omega
 rcases h with rfl | rfl | rfl | rfl | rfl | rfl | rfl | rfl
 ·exact ⟨lo Z4, uI Z4⟩
 ·refine ⟨lo Z4, Ci Z4 fun r => ?_⟩
  have := (mJ r).1
  rw [show Txt.split ("need" : Str) (" " : Str) = [("need" : Str)] by decide +kernel] at this
  cases this
 ·refine ⟨lo Z4, CK (us := [⟨1, .nms true ["b"]⟩]) Z4 ⟨Z2, Z0, fun t ht => ?_, fun t ht => ?_⟩ Z4 Z4⟩
  ·rw [mem_singleton.mp ht]; exact Gk (.inl rfl) Z4
  ·cases ht; rfl
 ·refine ⟨lo Z4, CK (us := [⟨1, .nms false ["b"]⟩, ⟨1, .nms true ["c"]⟩]) Z4 ⟨Z2, Z0, fun t ht => ?_, fun t ht => ?_⟩ Z4 Z4⟩
  ·simp only [mem_cons, not_mem_nil, or_false] at ht
   rcases ht with rfl | rfl
   ·exact Gk (.inl rfl) Z4
   ·exact Gk (.inl rfl) Z4
  ·cases ht; rfl
 ·refine ⟨lo Z4, Ci Z4 fun r => ?_⟩
  have e : (Txt.split ("need a\n" : Str) (" " : Str)).drop 1 = [("a\n" : Str)] := by decide +kernel
  rw [e] at r
  exact lZ (z := "a\n") Z4 Z4 Z4 (lB r (i := 0) rfl)
 ·exact ⟨lo Z4, uI Z4⟩
 ·exact ⟨lo Z4, uI Z4⟩
 ·refine ⟨lo Z4, Ln Z4 fun r => ?_⟩
  have e : (Txt.split ("let a be  1" : Str) (" " : Str)).drop 3 = [("" : Str), "1"] := by decide +kernel
  rw [e] at r
  have := (mJ r).1
  cases this
section
variable {K : Frag} {HE C D : Addr}
theorem jE {nm q : Str} {N : Addr} {bs bm : List Value} {sn : List Str} {sub : List Value} {ab : Bool} {col : Option Bool} {dd : Option Addr} {k0 k1 k2 k3 k5 : Option Value} (l : K.lookup C = some (excClassObj nm q C N bs bm true sn sub ab col dd k0 k1 k2 k3 k5 "ValueError.__new__")) : il K C bm := ⟨_, _, _, _, _, _, _, _, _, _, _, _, _, _, l⟩
theorem Bj {bm bm' : List Value} (l : il K C bm) (l' : il K D bm') : kitOne K (.ref C) (.ref D) = some ((Value.ref C :: bm).contains (.ref D)) := by
 obtain ⟨_, _, _, _, _, _, _, _, _, _, _, _, _, _, l⟩ := l
 obtain ⟨_, _, _, _, _, _, _, _, _, _, _, _, _, _, l'⟩ := l'
 exact JB l l'
theorem IW {bm : List Value} (l : il K C bm) : kitOne K (.ref C) (.ref C) = some true := by rw [Bj l l]; simp
theorem ni (l : il K C (.ref HE :: cJ)) (l' : il K D (.ref HE :: cJ)) (h0 : D ≠ HE) (h1 : D ≠ C) : kitOne K (.ref C) (.ref D) = some false := by
 rw [Bj l l', contains_cons, contains_cons, Ml]
 have e0 : (Value.ref D == Value.ref HE) = false := beq_eq_false_iff_ne.mpr fun z => h0 (Value.ref.inj z)
 have e1 : (Value.ref D == Value.ref C) = false := beq_eq_false_iff_ne.mpr fun z => h1 (Value.ref.inj z)
 rw [e0, e1]
 rfl
theorem Tu (l : il K C (.ref HE :: cJ)) : kitOne K (.ref C) (.type "ValueError") = some true := by
 obtain ⟨_, _, _, _, _, _, _, _, _, _, _, _, _, _, l⟩ := l
 rw [My Z4 l]
 simp
theorem Lw (l : il K C (.ref HE :: cJ)) : Sub K C HE := by
 obtain ⟨_, _, _, _, _, _, _, _, _, _, _, _, _, _, l⟩ := l
 exact ⟨_, _, _, _, _, _, _, _, _, _, _, _, _, _, _, _, _, l, Z2⟩
theorem MK (l : il K C (.ref HE :: cJ)) (ga : findIn K (.ref C) "__getattribute__" = some (some (.builtin "BaseException.__getattribute__"))) (nga : findIn K (.ref C) "__getattr__" = some none)
  (sa : findIn K (.ref C) "__setattr__" = some (some (.builtin "object.__setattr__"))) (cl : findIn K (.ref C) "__class__" = some (some (.builtin "object.__class__")))
  (cg : specialIn K (.builtin "object.__class__") "__get__" = some (some (.builtin "getset_descriptor.__get__"))) (ct : takesIn K (.builtin "object.__class__") = some true) : qR K C := by
 obtain ⟨_, _, _, _, _, _, _, _, _, _, _, _, _, _, l⟩ := l
 exact JH l rfl rfl ga nga sa cl cg ct
structure XI (K : Frag) (HE C f : Addr) (x : Str) : Prop where
 A : nsIn K mainGlobals x = some (some (.ref C))
 l : il K C (.ref HE :: cJ)
 e0 : findIn K (.ref C) "__getattribute__" = some (some (.builtin "BaseException.__getattribute__"))
 e1 : findIn K (.ref C) "__getattr__" = some none
 e2 : findIn K (.ref C) "__setattr__" = some (some (.builtin "object.__setattr__"))
 e3 : findIn K (.ref C) "__class__" = some (some (.builtin "object.__class__"))
 e4 : findIn K (.ref C) "at" = some none
 e5 : findIn K (.ref C) "__init__" = some (some (.ref f))
 kp : keepIn K (.ref C) = true
theorem di {cs : List Addr} (h : cs.Nodup) {i j : Nat} {a b : Addr} (ha : cs[i]? = some a) (hb : cs[j]? = some b) (hij : i ≠ j) : a ≠ b := fun e => by
 subst e
 exact hij ((List.getElem?_inj (List.getElem?_eq_some_iff.mp ha).1 h).mp (ha.trans hb.symm))
theorem Vi (l : il K C (.ref HE :: cJ)) {nm q : Str} {N : Addr} {bs : List Value} {sn : List Str} {sub : List Value} {ab : Bool} {col : Option Bool} {dd : Option Addr} {k0 k1 k2 k3 k5 : Option Value} (h : K.lookup HE = some (excClassObj nm q HE N bs cJ true sn sub ab col dd k0 k1 k2 k3 k5 "ValueError.__new__")) : kitOne K (.ref C) (.ref HE) = some true := by
 rw [Bj l (jE h)]; simp
theorem Ir {bm : List Value} (l : il K C bm) : Sub K C C := by
 obtain ⟨_, _, _, _, _, _, _, _, _, _, _, _, _, _, l⟩ := l
 exact ⟨_, _, _, _, _, _, _, _, _, _, _, _, _, _, _, _, _, l, Z2⟩
end
theorem Uz {p : Nat -> Prop} (a : p 20) (b : p 21) (c : p 22) (d : p 23) (e : p 24) (f : p 25) (g : p 26) (h : p 27) (i : p 28) (j : p 29) (k : p 30) (l : p 31) (m : p 32) (n : p 33) : ∀ x, 20 <= x -> x <= 33 -> p x := fun x h1 h2 => by
 rcases (by omega : x = 20 \/ x = 21 \/ x = 22 \/ x = 23 \/ x = 24 \/ x = 25 \/ x = 26 \/ x = 27 \/ x = 28 \/ x = 29 \/ x = 30 \/ x = 31 \/ x = 32 \/ x = 33) with rfl | rfl | rfl | rfl | rfl | rfl | rfl | rfl | rfl | rfl | rfl | rfl | rfl | rfl <;> assumption
end
structure Tx (K : Frag) (mg : MG) (C : Nat -> Addr) : Prop where
 any : mg "any" = none
 len : mg "len" = none
 range : mg "range" = none
 inst : mg "isinstance" = none
 t_str : mg "str" = none
 t_int : mg "int" = none
 t_bool : mg "bool" = none
 t_list : mg "list" = none
 t_tuple : mg "tuple" = none
 all : mg "all" = none
 max : mg "max" = none
 min : mg "min" = none
 zip : mg "zip" = none
 t_ValueError : mg "ValueError" = none
 g_LETTERS : ∃ t, mg "LETTERS" = some (.str "abcdefghijklmnopqrstuvwxyz" t)
 g_MOST_LETTERS : ∃ t, mg "MOST_LETTERS" = some (.int 8 t)
 g_MOST_NAMES : ∃ t, mg "MOST_NAMES" = some (.int 3 t)
 g_FIGURES : ∃ t, mg "FIGURES" = some (.str "0123456789" t)
 g_MOST_FIGURES : ∃ t, mg "MOST_FIGURES" = some (.int 20 t)
 g_MOST_TERMS : ∃ t, mg "MOST_TERMS" = some (.int 6 t)
 g_MOST_STEPS : ∃ t, mg "MOST_STEPS" = some (.int 4 t)
 aa4 : ∃ f fd, FnAt K mg "show_term" jK jR f fd
 aaf : ∃ f fd, FnAt K mg "show_expr" jC eV f fd
 aad : ∃ f fd, FnAt K mg "is_name" oF fZ f fd
 aao : ∃ f fd, FnAt K mg "are_names" jD ie f fd
 aak : ∃ f fd, FnAt K mg "is_address" iU fH f fd
 abi : ∃ f fd, FnAt K mg "is_number" jP jx f fd
 aa0 : ∃ f fd, FnAt K mg "read_path" jJ jz f fd
 aau : ∃ f fd, FnAt K mg "read_term" jH jN f fd
 abk : ∃ f fd, FnAt K mg "read_sign" jT jG f fd
 abd : ∃ f fd, FnAt K mg "read_expr" jM jB f fd
 abg : ∃ f fd, FnAt K mg "has_call" mR mY f fd
 aaz : ∃ f fd, FnAt K mg "names_expr" jb iQ f fd
 aav : ∃ f fd, FnAt K mg "names_address" dY d9 f fd
 aa9 : ∃ f fd, FnAt K mg "names_word" iD iY f fd
 aas : ∃ f fd, FnAt K mg "terms_from" iI iz f fd
 abe : ∃ f fd, FnAt K mg "deed_of" n8 oG f fd
 abb : ∃ f fd, FnAt K mg "row_of" pW qI f fd
 abf : ∃ f fd, FnAt K mg "row_at" pJ pY f fd
 aap : ∃ f fd, FnAt K mg "read_row" mW jg f fd
 abj : ∃ f fd, FnAt K mg "_law_cell" mC yh f fd
 aab : ∃ f fd, FnAt K mg "_law_sub" nU rZ f fd
 aa3 : ∃ f fd, FnAt K mg "_law_number" iM qG f fd
 aaa : ∃ f fd, FnAt K mg "_law_pick" jf gh f fd
 abl : ∃ f fd, FnAt K mg "_law_name" mO wX f fd
 aae : ∃ f fd, FnAt K mg "_law_label" ju lO f fd
 abr : ∃ f fd, FnAt K mg "_law_address" gJ oJ f fd
 abc : ∃ f fd, FnAt K mg "_law_term" mZ yS f fd
 aa6 : ∃ f fd, FnAt K mg "_law_terms" jF tD f fd
 aax : ∃ f fd, FnAt K mg "_law_word" lJ yg f fd
 aay : ∃ f fd, FnAt K mg "_law_text" lU xP f fd
 abm : ∃ f fd, FnAt K mg "_law_row" oK Do f fd
 aan : ∃ f fd, FnAt K mg "_law_said" m5 uM f fd
 aaj : ∃ f fd, FnAt K mg "_law_whole" gR oE f fd
 aa8 : ∃ f fd, FnAt K mg "_law_term_is" gq qz f fd
 abh : ∃ f fd, FnAt K mg "_law_terms_are" d7 mU f fd
 abq : ∃ f fd, FnAt K mg "_law_is" pM Jj f fd
 abo : ∃ f fd, FnAt K mg "_law_says" mD xV f fd
 aac : ∃ f fd, FnAt K mg "_law_is_name" gP jm f fd
 aaw : ∃ f fd, FnAt K mg "_law_is_address" dF jy f fd
 abn : ∃ f fd, FnAt K mg "_law_read_word" dZ lN f fd
 aah : ∃ f fd, FnAt K mg "_law_read" mF uK f fd
 abp : ∃ f fd, FnAt K mg "_law_read_told" dW mX f fd
 aba : ∃ f fd, FnAt K mg "_law_read_row" fJ oh f fd
 aa5 : ∃ f fd, FnAt K mg "_law_worded" iC qL f fd
 aa1 : ∃ f fd, FnAt K mg "_law_signed" iZ ql f fd
 aa7 : ∃ f fd, FnAt K mg "_law_other" jw tM f fd
 aag : ∃ f fd, FnAt K mg "_law_refused" gM lE f fd
 aaq : ∃ f fd, FnAt K mg "_law_taken" jQ tU f fd
 m_Row_binds : ∃ f fd, MAt K "binds" "Row.binds" gQ lR f fd /\ Meth K (C 5) "binds" f /\ Meth K (C 6) "binds" f
 m_Row_asked : ∃ f fd, MAt K "asked" "Row.asked" gF mQ f fd /\ Meth K (C 0) "asked" f /\ Meth K (C 1) "asked" f /\ Meth K (C 5) "asked" f /\ Meth K (C 6) "asked" f
 m_Row_said : ∃ f fd, MAt K "said" "Row.said" qj zu f fd /\ Meth K (C 6) "said" f
 i_Let : ∃ f fd, MAt K "__init__" "Let.__init__" dH jA f fd /\ Mk K (C 0) f
 m_Let_binds : ∃ f fd, MAt K "binds" "Let.binds" gA lY f fd /\ Meth K (C 0) "binds" f
 m_Let_said : ∃ f fd, MAt K "said" "Let.said" iu nD f fd /\ Meth K (C 0) "said" f
 i_Deed : ∃ f fd, MAt K "__init__" "Deed.__init__" cV iy f fd /\ Mk K (C 1) f
 m_Deed_binds : ∃ f fd, MAt K "binds" "Deed.binds" fc kh f fd /\ Meth K (C 1) "binds" f
 m_Deed_said : ∃ f fd, MAt K "said" "Deed.said" gK mK f fd /\ Meth K (C 1) "said" f
 i_Draw : ∃ f fd, MAt K "__init__" "Draw.__init__" cZ iJ f fd /\ Mk K (C 2) f
 m_Draw_binds : ∃ f fd, MAt K "binds" "Draw.binds" fQ jY f fd /\ Meth K (C 2) "binds" f
 m_Draw_asked : ∃ f fd, MAt K "asked" "Draw.asked" fU kY f fd /\ Meth K (C 2) "asked" f
 m_Draw_said : ∃ f fd, MAt K "said" "Draw.said" gO mj f fd /\ Meth K (C 2) "said" f
 i_Late : ∃ f fd, MAt K "__init__" "Late.__init__" cY iG f fd /\ Mk K (C 3) f
 m_Late_binds : ∃ f fd, MAt K "binds" "Late.binds" eZ jX f fd /\ Meth K (C 3) "binds" f
 m_Late_asked : ∃ f fd, MAt K "asked" "Late.asked" fM kI f fd /\ Meth K (C 3) "asked" f
 m_Late_said : ∃ f fd, MAt K "said" "Late.said" gH lK f fd /\ Meth K (C 3) "said" f
 i_Take : ∃ f fd, MAt K "__init__" "Take.__init__" dh iR f fd /\ Mk K (C 4) f
 m_Take_binds : ∃ f fd, MAt K "binds" "Take.binds" fB kO f fd /\ Meth K (C 4) "binds" f
 m_Take_asked : ∃ f fd, MAt K "asked" "Take.asked" fu kJ f fd /\ Meth K (C 4) "asked" f
 m_Take_said : ∃ f fd, MAt K "said" "Take.said" gr lX f fd /\ Meth K (C 4) "said" f
 i_Need : ∃ f fd, MAt K "__init__" "Need.__init__" dj iB f fd /\ Mk K (C 5) f
 m_Need_said : ∃ f fd, MAt K "said" "Need.said" gB lQ f fd /\ Meth K (C 5) "said" f
 c_Let : mg "Let" = some (.ref (C 0))
 c_Deed : mg "Deed" = some (.ref (C 1))
 c_Draw : mg "Draw" = some (.ref (C 2))
 c_Late : mg "Late" = some (.ref (C 3))
 c_Take : mg "Take" = some (.ref (C 4))
 c_Need : mg "Need" = some (.ref (C 5))
 c_Row : mg "Row" = some (.ref (C 6))
 cn : MkN K (C 6)
 fam : SQ K C
 c_HouseError : mg "HouseError" = some (.ref (C 20))
 c_NoExpr : mg "NoExpr" = some (.ref (C 21))
 c_NoText : mg "NoText" = some (.ref (C 22))
 c_Clash : mg "Clash" = some (.ref (C 23))
 c_Double : mg "Double" = some (.ref (C 24))
 c_Fault : mg "Fault" = some (.ref (C 25))
 c_NoDrop : mg "NoDrop" = some (.ref (C 26))
 c_NoName : mg "NoName" = some (.ref (C 27))
 c_NoPart : mg "NoPart" = some (.ref (C 28))
 c_NoRow : mg "NoRow" = some (.ref (C 29))
 c_Orphan : mg "Orphan" = some (.ref (C 30))
 c_TooMany : mg "TooMany" = some (.ref (C 31))
 c_TooWide : mg "TooWide" = some (.ref (C 32))
 c_Twice : mg "Twice" = some (.ref (C 33))
 x_HouseError : ExC K (C 20)
 x_NoExpr : ExC K (C 21)
 x_NoText : ExC K (C 22)
 xf : Kc K C
 i_NoExpr : findIn K (.ref (C 21)) "__init__" = some (some (.builtin "ValueError.__init__"))
 k_NoExpr : keepIn K (.ref (C 21)) = true
 i_NoText : ∃ f fd, XIn K (C 22) "NoText.__init__" gm du f fd
 ini1 : specialIn K (.ref (C 20)) "__getattribute__" = some (some (.builtin "type.__getattribute__"))
 ini2 : readsIn K (C 20) (.type "type") = true
 ini3 : findCls K (.ref (C 20)) (.type "type") "__init__" = some (.val (.builtin "ValueError.__init__"))
section
variable {P : Program} {w : World} {K : Frag} {mg : MG} {base : Heap}
theorem xZ (T : Tx K mg C) (F : Fun K "show_term" "show_term" jK f fd) : aO P w K mg base CX0 1 f fd jR xg := by
 refine F.oq rH fun _ _ _ _ H _ Q E hr h => ?_
 ·obtain ⟨x, th, rfl, hx, gth, q⟩ := h
  refine ⟨_, QSs.h (au (bc (aG bw (pv 0) aA (aH _)) (az (aD (bL qu Z3 T.t_str boot_str (aj (pv 1) ak)))) aL)
   (au (bz (i := 2) rH.nd rfl (Or.inl rfl) (dU plainAttrs_str slot_str_join type_str_join m6 aA (aj (pv 1) ak)))
   (au (bc (aG bw (pv 0) aA (aH _)) (az (aD (aJ aN (pv 2) aA))) aL)
   (az (aD (pv 2)))))), ?_⟩
  have q0 := q H (aB.refl H)
  cases th with
  | num m =>
   cases hx
   exact ⟨_, rfl, rfl, _, rfl, bu (decide_eq_true (show V.str (kindOf (.num m)) = V.str "number" from rfl)) ⟨_, rfl, _, rfl, log2_small gth, q0⟩⟩
  | nms c ys =>
   have gn : fV ys := gth
   obtain ⟨r, rfl, hr'⟩ := hx
   have hs : (ys.map (·.length)).sum <= ys.length * 8 := pD fun y hy => (gn.nm y hy).hi
   have h4 := gn.hi
   have hdl := gn.len
   cases c with
   | true =>
    refine ⟨_, rfl, rfl, _, rfl, aM (decide_eq_false (show ¬ V.str "call" = V.str "number" by decide +kernel)) ?_⟩
    refine ⟨rfl, _, rfl, _, r, ys, rfl, rfl, .inr (SqT.of hr'), by rw [yd]; omega, ?_⟩
    exact ⟨_, rfl, rfl, _, rfl, bu (decide_eq_true (show V.str "call" = V.str "call" from rfl)) ⟨_, rfl, _, _, rfl, rfl, le_trans (show (dotted ys).length + brk.length <= 1000 by rw [iT]; omega) cX, q0⟩⟩
   | false =>
    refine ⟨_, rfl, rfl, _, rfl, aM (decide_eq_false (show ¬ V.str "path" = V.str "number" by decide +kernel)) ?_⟩
    refine ⟨rfl, _, rfl, _, r, ys, rfl, rfl, .inr (SqT.of hr'), by rw [yd]; omega, ?_⟩
    exact ⟨_, rfl, rfl, _, rfl, aM (decide_eq_false (show ¬ V.str "path" = V.str "call" by decide +kernel)) ⟨_, rfl, q0⟩⟩
theorem mV (T : Tx K mg C) (F : Fun K "show_expr" "show_expr" jC f fd) : aO P w K mg base CX0 2 f fd eV qZ := by
 obtain ⟨fa4, da4, Aa4⟩ := T.aa4
 have Ga4 : aO P w K mg base CX0 1 fa4 da4 jR xg := xZ T Aa4.F
 refine F.oq gU fun _ _ _ _ H _ Q E hr h => ?_
 ·obtain ⟨l, ts, rfl, ⟨xs, hl, hxl, hx⟩, hg, q⟩ := h
  have hr1 : bh 1 _ := hr
  refine ⟨_, QSs.h (au (bz (i := 1) gU.nd rfl (Or.inl rfl) (bC ak))
   (au (nq PassesOwn.never rfl (gG (pv 0)) (nW (K := K) (n := 3) rfl rfl (bM (bj (i := 2) gU.nd rfl (Or.inl rfl)) (bM (bj (i := 3) gU.nd rfl (Or.inl rfl)) (bM (bj (i := 4) gU.nd rfl (Or.inl rfl)) nY))))
   (au (bc (aG jk (aF aY Z3 T.len boot_len (aj (pv 1) ak)) aq (aH _)) (az (jL (dU plainAttrs_list PySem.F.slot_list_append PySem.F.type_list_append lu (pv 1) (aj (Hb (aG bw (pv 2) aq (aH _)) aA aA) ak)))) aL)
   (az (jL (dU plainAttrs_list PySem.F.slot_list_append PySem.F.type_list_append lu (pv 1) (aj (aU Aa4 Ga4 hr1 (aj (pv 3) (aj (pv 4) ak))) ak))))))
   (az (aD (dU plainAttrs_str slot_str_join type_str_join m6 aA (aj (pv 1) ak)))))), ?_⟩
  have h6 := hg.hi
  refine ⟨by show 0 <= sizeLine; decide, fun d hd => ?_⟩
  refine ⟨_, rfl, l, rfl, ⟨_, SqL.of ((aB.new hd) _ _ hl)⟩, ?_⟩
  refine qD (xs := xs) (fun i σ H' => ∃ v2 v3 v4, σ = [some (.ref l), some (.ref d), v2, v3, v4] /\ aB H H' /\ H' d = some (.lst ((wordsOf (ts.take i)).map V.str))) ⟨none, none, none, rfl, aB.new hd, ao⟩ ?_ ?_ ?_
  ·rintro i σ H' _ ⟨v2, v3, v4, rfl, sm, _⟩
   exact SqL.of (sm _ _ hl)
  ·rintro i x σ H3 hxi ⟨v2, v3, v4, rfl, sm, h3d⟩
   obtain ⟨t, et, tm⟩ := hx i x hxi
   have gt : m9 t := hg.ok t (mem_of_getElem? et)
   obtain ⟨p, y, rfl, hp, hy⟩ := tm.same sm
   have hi : i < ts.length := (List.getElem?_eq_some_iff.mp et).1
   have hne : d ≠ p := uo h3d hp Z7
   refine ⟨p, _, rfl, SqT.of hp, rfl, _, _, rfl, _, _, rfl, _, _, rfl, rfl, ?_⟩
   have e2 : ts.take (i + 1) = ts.take i ++ [t] := by rw [take_add_one, et]; rfl
   have wl : (wordsOf (ts.take i)).length <= 12 := by
    cases htk : ts.take i with
    | nil => simp [wordsOf]
    | cons u r =>
     rw [cU Z2, <- htk, length_take]
     omega
   have fin : ∀ (ws : List Str) (Hx : Hp), ws.length <= 13 -> aB H Hx -> Hx d = some (.lst (ws.map V.str)) -> ws ++ [wordOf t.th] = wordsOf (ts.take (i + 1)) ->
     Gy (tBM K "list" BZ (vm 1) (tZ (Cm xg [] E0 (tZ (vm 3) (tZ (vm 4) Fb))) Fb))
      { nx := fun σ H' => ∃ v2 v3 v4, σ = [some (V.ref l), some (V.ref d), v2, v3, v4] /\ aB H H' /\ H' d = some (.lst ((wordsOf (ts.take (i + 1))).map V.str)), rt := Q, bk := FQ (tBM K "str" (rJoin K) (tC (.str " ")) (tZ (vm 1) Fb)) { nx := fun _ H' => Q .non H', rt := Q }, ct := fun σ H' => ∃ v2 v3 v4, σ = [some (V.ref l), some (V.ref d), v2, v3, v4] /\ aB H H' /\ H' d = some (.lst ((wordsOf (ts.take (i + 1))).map V.str)) }
      [some (V.ref l), some (V.ref d), some (V.int t.sg), some (V.str (kindOf t.th)), some y] Hx := by
    intro ws Hx hw sx hxd hws
    refine ⟨_, rfl, .inl ⟨rfl, _, SqL.of hxd⟩, _, rfl, _, rfl, y, t.th, rfl, (hx i _ hxi).elim fun t' ⟨et', tm'⟩ => ?_, gt.th, fun H4 s4 => ?_⟩
    ·rw [et] at et'; cases et'
     obtain ⟨p', y', e', hp', hy'⟩ := tm'.same sx
     cases e'
     obtain ⟨p0, y0, e0, hp0, hy0⟩ := tm
     cases e0
     have a1 := sm _ _ hp0
     rw [hp] at a1
     have a2 := sx _ _ hp0
     rw [hp'] at a2
     injection a1 with a1; injection a1 with a1
     injection a2 with a2; injection a2 with a2
     have ey : y = y0 := by injection a1 with _ a1; injection a1 with _ a1; injection a1
     subst ey
     exact hy0.same sx
    ·refine ⟨d, _, _, rfl, rfl, s4 _ _ hxd, lt_of_lt_of_le (show (ws.map V.str).length < 1000 by rw [length_map]; omega) cX, ?_⟩
     refine ⟨_, _, _, rfl, (sx.trans s4).over hd, ?_⟩
     rw [ao, <- hws, map_append]
     rfl
   refine ⟨_, rfl, d, _, rfl, .inl (SqL.of h3d), _, _, rfl, rfl, _, rfl, dm (fun h => ?_) (fun h => ?_)⟩
   ·rw [length_map] at h
    have hne2 : ts.take i ≠ [] := fun z => by rw [z] at h; simp [wordsOf] at h
    refine ⟨_, rfl, .inl ⟨rfl, _, SqL.of h3d⟩, _, rfl, rfl, _, rfl, YD ?_⟩
    refine ⟨d, _, V.str (sgw t.sg), rfl, by rw [K1], h3d, lt_of_lt_of_le (show _ < 1000 by rw [length_map]; omega) cX, ?_⟩
    refine fin (wordsOf (ts.take i) ++ [sgw t.sg]) _ (by rw [length_append]; simp; omega) (sm.over hd) (by rw [ao, map_append]; rfl) ?_
    rw [e2, my t hne2, append_assoc]
    rfl
   ·rw [length_map] at h
    have hne2 : ts.take i = [] := by
     cases htk : ts.take i with
     | nil => rfl
     | cons u r => rw [htk] at h; simp [wordsOf] at h
    refine fin (wordsOf (ts.take i)) H3 Z1 sm h3d ?_
    rw [e2, hne2]
    rfl
  ·rintro σ H3 ⟨v2, v3, v4, rfl, sm, h3d⟩
   rw [hxl, take_length] at h3d
   have wn := cU hg.lo
   have ws : ((wordsOf ts).map (·.length)).sum <= (wordsOf ts).length * 38 := pD fun y hy => by
    rcases rN hy with ⟨t, ht, rfl⟩ | ⟨t, ht, rfl⟩
    ·exact ul (hg.ok t ht).th
    ·rw [yc]; decide
   have q' := q H3 sm
   rw [<- Ea] at q'
   exact ⟨rfl, _, rfl, _, d, wordsOf ts, rfl, rfl, .inl (SqL.of h3d), by rw [uh]; omega, q'⟩
theorem rW (T : Tx K mg C) (F : Fun K "__init__" "NoText.__init__" gm f fd) : aO P w K mg base CX0 1 f fd du (tY (C 22)) := by
 refine F.oq vo fun _ _ _ _ H _ Q E hr h => ?_
 ·obtain ⟨x, n, rfl, hx, hi, q⟩ := h
  refine ⟨_, QSs.h (au (jL (Ai Z3 T.c_HouseError T.ini1 T.ini2 T.ini3 (aj (pv 0) (aj (vW (tL aA (tL (HN (pv 1)) Ge))) ak))))
   (az (yV (pv 0) (pv 1)))), ?_⟩
  refine ⟨_, rfl, _, rfl, Z4, _, rfl, Or.inl ⟨_, rfl, hi, _, rfl, Ji Z4 (le_trans (Iu hi) Z0), Ji Z4 (le_trans (Iu hi) Z0), _, _, _, _, _, rfl, hx, T.x_NoText, ?_⟩⟩
  exact ⟨_, rfl, _, rfl, _, _, _, rfl, hx, T.xf.x, T.xf.a, fun p hp hne => q p hp hne⟩
theorem yt (T : Tx K mg C) (F : Fun K "__init__" "NoText.__init__" gm f fd) : qC P w K mg base 1 f fd du (tY (C 22)) := by
 refine F.okH vo (fun vs H Q E h => ?_) (fun cdv A outer s H vs Q E y hr h => ?_)
 ·obtain ⟨x, n, rfl, _⟩ := h
  rfl
 ·obtain ⟨x, n, rfl, hx, hi, q⟩ := h
  refine ⟨_, QSs.h (au (jL (Ai Z3 T.c_HouseError T.ini1 T.ini2 T.ini3 (aj (pv 0) (aj (vW (tL aA (tL (HN (pv 1)) Ge))) ak))))
   (az (yV (pv 0) (pv 1)))), ?_⟩
  refine ⟨_, rfl, _, rfl, Z4, _, rfl, Or.inl ⟨_, rfl, hi, _, rfl, Ji Z4 (le_trans (Iu hi) Z0), Ji Z4 (le_trans (Iu hi) Z0), _, _, _, _, _, rfl, hx, T.x_NoText, ?_⟩⟩
  exact ⟨_, rfl, _, rfl, _, _, _, rfl, hx, T.xf.x, T.xf.a, fun p hp hne => q p hp hne⟩
theorem uE (T : Tx K mg C) (F : Fun K "binds" "Row.binds" gQ f fd) : aO P w K mg base CX0 1 f fd lR Hv := by
 refine F.oq yC fun _ _ _ _ H _ Q E hr h => ?_
 ·obtain ⟨v, rfl, q⟩ := h
  exact ⟨_, QSs.h (az (aD aA)), q H (aB.refl H)⟩
theorem jn (T : Tx K mg C) (F : Fun K "asked" "Row.asked" gF f fd) : aO P w K mg base CX0 1 f fd mQ yN := by
 refine F.oq yJ fun _ _ _ _ H _ Q E hr h => ?_
 ·obtain ⟨v, rfl, q⟩ := h
  exact ⟨_, QSs.h (az (aD (bC ak))), by show 0 <= sizeLine; decide, fun b hb => q b _ hb (aB.new hb) ao⟩
theorem qK (T : Tx K mg C) (F : Fun K "__init__" "Let.__init__" dH f fd) : aO P w K mg base CX0 1 f fd jA (xH C 0) := by
 refine F.oq zg fun _ _ _ _ H _ Q E hr h => ?_
 ·obtain ⟨x, dx, r, d, rfl, hso, hx, hts, h10, q⟩ := h
  refine ⟨_, QSs.h (au (ig (pv 0) (pv 1))
   (az (ig (pv 0) (bL lH Z3 T.t_list boot_list (aj (pv 2) ak))))), ?_⟩
  obtain ⟨xs, hl, hxl, hxt⟩ := id hts
  have hdx : d ≠ x := uo hl hx Z7
  refine ⟨_, rfl, _, rfl, x, _, dx, _, rfl, hx, (T.fam.c 0 Z0).cl, T.fam.nn 0 Z0, lt_of_lt_of_le (zero_lt_one) Z0, _, rfl, d, _, rfl, .inl (SqL.of (by rw [aR hdx]; exact hl)), fun l hlf => ⟨_, rfl, x, _, dx, _, rfl, (by rw [aR (qg hlf).2.symm]; exact ao), (T.fam.c 0 Z0).cl, T.fam.nt 0 Z0, lt_of_lt_of_le (Bk zero_lt_one) Z0, ?_⟩⟩
  obtain ⟨hl0, hlx⟩ := qg hlf
  refine q l _ hl0 (sb3 hl0) ⟨dx, _, by rw [hso]; exact ao, ?_⟩
  refine ⟨fun _ => (lkN Z4).trans lkP, fun _ => ⟨lkP, xs, by rw [aR hlx]; exact ao, hxl, fun j y e => ?_⟩, fun k => absurd k Z1, fun k => absurd k Z1, (lkN Z4).trans (lkN Z4), (lkN Z4).trans (lkN Z4), (lkN Z4).trans (lkN Z4)⟩
  obtain ⟨t, et, tm⟩ := hxt j y e
  exact ⟨t, et, tm.but hx (sb3 hl0)⟩
theorem t8 (T : Tx K mg C) (F : Fun K "binds" "Let.binds" gA f fd) : aO P w K mg base CX0 1 f fd lY (spB C 0) := by
 refine F.oq yu fun _ _ _ _ H _ Q E hr h => ?_
 ·obtain ⟨a, l, r, rfl, hso, ra, q⟩ := h
  refine ⟨_, QSs.h (az (aD (bY (pv 0) rfl))), ?_⟩
  obtain ⟨dx, fs, ha, hf⟩ := id ra
  rw [hso] at ha
  exact ⟨_, rfl, rdF ha (T.fam.c 0 Z0).cl (T.fam.nn 0 Z0) (hf.nm (by rw [hso]; decide)) (q H (aB.refl H))⟩
theorem vz (T : Tx K mg C) (F : Fun K "said" "Let.said" iu f fd) : aO P w K mg base CX0 3 f fd nD (spS C 0) := by
 obtain ⟨faf, daf, Aaf⟩ := T.aaf
 have Gaf : aO P w K mg base CX0 2 faf daf eV qZ := mV T Aaf.F
 refine F.oq Ae fun _ _ _ _ H _ Q E hr h => ?_
 ·obtain ⟨a, l, r, rfl, hso, ra, hg, q⟩ := h
  have hr2 : bh 2 _ := hr
  refine ⟨_, QSs.h (az (aD (aJ aN (aJ aN (aJ aN aA (bY (pv 0) rfl)) aA) (aU Aaf Gaf hr2 (aj (bY (pv 0) rfl) ak))))), ?_⟩
  obtain ⟨dx, fs, ha, hf⟩ := id ra
  rw [hso] at ha
  have e1 := hg.nl
  have e2 := hg.al
  have e3 := hg.tl
  have e4 := hg.wd.hi
  rw [FW hso] at q
  refine ⟨_, rfl, rdF ha (T.fam.c 0 Z0).cl (T.fam.nn 0 Z0) (hf.nm (by rw [hso]; decide)) ⟨_, _, rfl, rfl, abS (le_of_eq tR) e1, _, _, rfl, rfl, abS (alS (le_of_eq tR) e1) (le_of_eq jU), _, rfl, rdF ha (T.fam.c 0 Z0).cl (T.fam.nt 0 Z0) ((hf.tm (.inl hso)).1) ⟨l, r.ts, rfl, (hf.tm (.inl hso)).2, hg.ts, fun H2 s2 => ⟨_, _, rfl, rfl, abS (alS (alS (le_of_eq tR) e1) (le_of_eq jU)) e3, q H2 s2⟩⟩⟩⟩
theorem o7 (T : Tx K mg C) (F : Fun K "__init__" "Deed.__init__" cV f fd) : aO P w K mg base CX0 1 f fd iy (xH C 1) := by
 refine F.oq yr fun _ _ _ _ H _ Q E hr h => ?_
 ·obtain ⟨x, dx, r, d, rfl, hso, hx, hts, h10, q⟩ := h
  refine ⟨_, QSs.h (au (ig (pv 0) (pv 1))
   (az (ig (pv 0) (bL lH Z3 T.t_list boot_list (aj (pv 2) ak))))), ?_⟩
  obtain ⟨xs, hl, hxl, hxt⟩ := id hts
  have hdx : d ≠ x := uo hl hx Z7
  refine ⟨_, rfl, _, rfl, x, _, dx, _, rfl, hx, (T.fam.c 1 Z0).cl, T.fam.nn 1 Z0, lt_of_lt_of_le (zero_lt_one) Z0, _, rfl, d, _, rfl, .inl (SqL.of (by rw [aR hdx]; exact hl)), fun l hlf => ⟨_, rfl, x, _, dx, _, rfl, (by rw [aR (qg hlf).2.symm]; exact ao), (T.fam.c 1 Z0).cl, T.fam.nt 1 Z0, lt_of_lt_of_le (Bk zero_lt_one) Z0, ?_⟩⟩
  obtain ⟨hl0, hlx⟩ := qg hlf
  refine q l _ hl0 (sb3 hl0) ⟨dx, _, by rw [hso]; exact ao, ?_⟩
  refine ⟨fun _ => (lkN Z4).trans lkP, fun _ => ⟨lkP, xs, by rw [aR hlx]; exact ao, hxl, fun j y e => ?_⟩, fun k => absurd k Z1, fun k => absurd k Z1, (lkN Z4).trans (lkN Z4), (lkN Z4).trans (lkN Z4), (lkN Z4).trans (lkN Z4)⟩
  obtain ⟨t, et, tm⟩ := hxt j y e
  exact ⟨t, et, tm.but hx (sb3 hl0)⟩
theorem sO (T : Tx K mg C) (F : Fun K "binds" "Deed.binds" fc f fd) : aO P w K mg base CX0 1 f fd kh (spB C 1) := by
 refine F.oq vB fun _ _ _ _ H _ Q E hr h => ?_
 ·obtain ⟨a, l, r, rfl, hso, ra, q⟩ := h
  refine ⟨_, QSs.h (az (aD (bY (pv 0) rfl))), ?_⟩
  obtain ⟨dx, fs, ha, hf⟩ := id ra
  rw [hso] at ha
  exact ⟨_, rfl, rdF ha (T.fam.c 1 Z0).cl (T.fam.nn 1 Z0) (hf.nm (by rw [hso]; decide)) (q H (aB.refl H))⟩
theorem uF (T : Tx K mg C) (F : Fun K "said" "Deed.said" gK f fd) : aO P w K mg base CX0 3 f fd mK (spS C 1) := by
 obtain ⟨faf, daf, Aaf⟩ := T.aaf
 have Gaf : aO P w K mg base CX0 2 faf daf eV qZ := mV T Aaf.F
 refine F.oq xU fun _ _ _ _ H _ Q E hr h => ?_
 ·obtain ⟨a, l, r, rfl, hso, ra, hg, q⟩ := h
  have hr2 : bh 2 _ := hr
  refine ⟨_, QSs.h (az (aD (aJ aN (aJ aN (aJ aN aA (bY (pv 0) rfl)) aA) (aU Aaf Gaf hr2 (aj (bY (pv 0) rfl) ak))))), ?_⟩
  obtain ⟨dx, fs, ha, hf⟩ := id ra
  rw [hso] at ha
  have e1 := hg.nl
  have e2 := hg.al
  have e3 := hg.tl
  have e4 := hg.wd.hi
  rw [Ft hso] at q
  refine ⟨_, rfl, rdF ha (T.fam.c 1 Z0).cl (T.fam.nn 1 Z0) (hf.nm (by rw [hso]; decide)) ⟨_, _, rfl, rfl, abS (le_of_eq qw) e1, _, _, rfl, rfl, abS (alS (le_of_eq qw) e1) (le_of_eq jU), _, rfl, rdF ha (T.fam.c 1 Z0).cl (T.fam.nt 1 Z0) ((hf.tm (.inr (.inl hso))).1) ⟨l, r.ts, rfl, (hf.tm (.inr (.inl hso))).2, hg.ts, fun H2 s2 => ⟨_, _, rfl, rfl, abS (alS (alS (le_of_eq qw) e1) (le_of_eq jU)) e3, q H2 s2⟩⟩⟩⟩
theorem o5 (T : Tx K mg C) (F : Fun K "__init__" "Draw.__init__" cZ f fd) : aO P w K mg base CX0 1 f fd iJ (yq C 2) := by
 refine F.oq yz fun _ _ _ _ H _ Q E hr h => ?_
 ·obtain ⟨x, dx, r, rfl, hso, hx, q⟩ := h
  refine ⟨_, QSs.h (au (ig (pv 0) (pv 1))
   (az (ig (pv 0) (pv 2)))), ?_⟩
  refine ⟨_, rfl, _, rfl, x, _, dx, _, rfl, hx, (T.fam.c 2 Z0).cl, T.fam.na 2 Z0, lt_of_lt_of_le (zero_lt_one) Z0, _, rfl, _, rfl, x, _, dx, _, rfl, ao, (T.fam.c 2 Z0).cl, T.fam.nn 2 Z0, lt_of_lt_of_le (Bk zero_lt_one) Z0, ?_⟩
  refine q _ (fun b o e hb => by rw [aR hb, aR hb]; exact e) fun l => ⟨dx, _, by rw [hso]; exact ao, ?_⟩
  exact ⟨fun _ => lkP, fun k => absurd k Z1, fun _ => (lkN Z4).trans lkP, fun k => absurd k Z1, (lkN Z4).trans (lkN Z4), (lkN Z4).trans (lkN Z4), (lkN Z4).trans (lkN Z4)⟩
theorem sU (T : Tx K mg C) (F : Fun K "binds" "Draw.binds" fQ f fd) : aO P w K mg base CX0 1 f fd jY (spB C 2) := by
 refine F.oq vH fun _ _ _ _ H _ Q E hr h => ?_
 ·obtain ⟨a, l, r, rfl, hso, ra, q⟩ := h
  refine ⟨_, QSs.h (az (aD (bY (pv 0) rfl))), ?_⟩
  obtain ⟨dx, fs, ha, hf⟩ := id ra
  rw [hso] at ha
  exact ⟨_, rfl, rdF ha (T.fam.c 2 Z0).cl (T.fam.nn 2 Z0) (hf.nm (by rw [hso]; decide)) (q H (aB.refl H))⟩
theorem sH (T : Tx K mg C) (F : Fun K "asked" "Draw.asked" fU f fd) : aO P w K mg base CX0 1 f fd kY (spA C 2) := by
 refine F.oq vM fun _ _ _ _ H _ Q E hr h => ?_
 ·obtain ⟨a, l, r, rfl, hso, ra, q⟩ := h
  refine ⟨_, QSs.h (az (aD (bC (aj (bY (pv 0) rfl) ak)))), ?_⟩
  obtain ⟨dx, fs, ha, hf⟩ := id ra
  rw [hso] at ha
  exact ⟨_, rfl, rdF ha (T.fam.c 2 Z0).cl (T.fam.na 2 Z0) (hf.ad (.inl hso)) ⟨by show 1 <= sizeLine; decide, fun b hb => q b _ hb (aB.new hb) ao⟩⟩
theorem uZ (T : Tx K mg C) (F : Fun K "said" "Draw.said" gO f fd) : aO P w K mg base CX0 1 f fd mj (spS C 2) := by
 refine F.oq yL fun _ _ _ _ H _ Q E hr h => ?_
 ·obtain ⟨a, l, r, rfl, hso, ra, hg, q⟩ := h
  refine ⟨_, QSs.h (az (aD (aJ aN (aJ aN (aJ aN aA (bY (pv 0) rfl)) aA) (bY (pv 0) rfl)))), ?_⟩
  obtain ⟨dx, fs, ha, hf⟩ := id ra
  rw [hso] at ha
  have e1 := hg.nl
  have e2 := hg.al
  have e3 := hg.tl
  have e4 := hg.wd.hi
  rw [Gv hso] at q
  exact ⟨_, rfl, rdF ha (T.fam.c 2 Z0).cl (T.fam.na 2 Z0) (hf.ad (.inl hso)) ⟨_, _, rfl, rfl, abS (le_of_eq p7) e2, _, _, rfl, rfl, abS (alS (le_of_eq p7) e2) (le_of_eq eO), _, rfl, rdF ha (T.fam.c 2 Z0).cl (T.fam.nn 2 Z0) (hf.nm (by rw [hso]; decide)) ⟨_, _, rfl, rfl, abS (alS (alS (le_of_eq p7) e2) (le_of_eq eO)) e1, q H (aB.refl H)⟩⟩⟩
theorem o8 (T : Tx K mg C) (F : Fun K "__init__" "Late.__init__" cY f fd) : aO P w K mg base CX0 1 f fd iG (yq C 3) := by
 refine F.oq yF fun _ _ _ _ H _ Q E hr h => ?_
 ·obtain ⟨x, dx, r, rfl, hso, hx, q⟩ := h
  refine ⟨_, QSs.h (au (ig (pv 0) (pv 1))
   (az (ig (pv 0) (pv 2)))), ?_⟩
  refine ⟨_, rfl, _, rfl, x, _, dx, _, rfl, hx, (T.fam.c 3 Z0).cl, T.fam.na 3 Z0, lt_of_lt_of_le (zero_lt_one) Z0, _, rfl, _, rfl, x, _, dx, _, rfl, ao, (T.fam.c 3 Z0).cl, T.fam.nn 3 Z0, lt_of_lt_of_le (Bk zero_lt_one) Z0, ?_⟩
  refine q _ (fun b o e hb => by rw [aR hb, aR hb]; exact e) fun l => ⟨dx, _, by rw [hso]; exact ao, ?_⟩
  exact ⟨fun _ => lkP, fun k => absurd k Z1, fun _ => (lkN Z4).trans lkP, fun k => absurd k Z1, (lkN Z4).trans (lkN Z4), (lkN Z4).trans (lkN Z4), (lkN Z4).trans (lkN Z4)⟩
theorem sy (T : Tx K mg C) (F : Fun K "binds" "Late.binds" eZ f fd) : aO P w K mg base CX0 1 f fd jX (spB C 3) := by
 refine F.oq vL fun _ _ _ _ H _ Q E hr h => ?_
 ·obtain ⟨a, l, r, rfl, hso, ra, q⟩ := h
  refine ⟨_, QSs.h (az (aD (bY (pv 0) rfl))), ?_⟩
  obtain ⟨dx, fs, ha, hf⟩ := id ra
  rw [hso] at ha
  exact ⟨_, rfl, rdF ha (T.fam.c 3 Z0).cl (T.fam.nn 3 Z0) (hf.nm (by rw [hso]; decide)) (q H (aB.refl H))⟩
theorem sr (T : Tx K mg C) (F : Fun K "asked" "Late.asked" fM f fd) : aO P w K mg base CX0 1 f fd kI (spA C 3) := by
 refine F.oq vR fun _ _ _ _ H _ Q E hr h => ?_
 ·obtain ⟨a, l, r, rfl, hso, ra, q⟩ := h
  refine ⟨_, QSs.h (az (aD (bC (aj (bY (pv 0) rfl) ak)))), ?_⟩
  obtain ⟨dx, fs, ha, hf⟩ := id ra
  rw [hso] at ha
  exact ⟨_, rfl, rdF ha (T.fam.c 3 Z0).cl (T.fam.na 3 Z0) (hf.ad (.inr (.inl hso))) ⟨by show 1 <= sizeLine; decide, fun b hb => q b _ hb (aB.new hb) ao⟩⟩
theorem vp (T : Tx K mg C) (F : Fun K "said" "Late.said" gH f fd) : aO P w K mg base CX0 1 f fd lK (spS C 3) := by
 refine F.oq xY fun _ _ _ _ H _ Q E hr h => ?_
 ·obtain ⟨a, l, r, rfl, hso, ra, hg, q⟩ := h
  refine ⟨_, QSs.h (az (aD (aJ aN (aJ aN (aJ aN aA (bY (pv 0) rfl)) aA) (bY (pv 0) rfl)))), ?_⟩
  obtain ⟨dx, fs, ha, hf⟩ := id ra
  rw [hso] at ha
  have e1 := hg.nl
  have e2 := hg.al
  have e3 := hg.tl
  have e4 := hg.wd.hi
  rw [Gq hso] at q
  exact ⟨_, rfl, rdF ha (T.fam.c 3 Z0).cl (T.fam.na 3 Z0) (hf.ad (.inr (.inl hso))) ⟨_, _, rfl, rfl, abS (le_of_eq pZ) e2, _, _, rfl, rfl, abS (alS (le_of_eq pZ) e2) (le_of_eq eO), _, rfl, rdF ha (T.fam.c 3 Z0).cl (T.fam.nn 3 Z0) (hf.nm (by rw [hso]; decide)) ⟨_, _, rfl, rfl, abS (alS (alS (le_of_eq pZ) e2) (le_of_eq eO)) e1, q H (aB.refl H)⟩⟩⟩
theorem pA (T : Tx K mg C) (F : Fun K "__init__" "Take.__init__" dh f fd) : aO P w K mg base CX0 1 f fd iR (Ga C) := by
 refine F.oq xN fun _ _ _ _ H _ Q E hr h => ?_
 ·obtain ⟨x, dx, r, rfl, hso, hx, q⟩ := h
  refine ⟨_, QSs.h (au (ig (pv 0) (pv 1))
   (au (ig (pv 0) (pv 2))
   (az (ig (pv 0) (pv 3))))), ?_⟩
  refine ⟨_, rfl, _, rfl, x, _, dx, _, rfl, hx, (T.fam.c 4 Z0).cl, T.fam.nw 4 Z0, lt_of_lt_of_le (zero_lt_one) Z0, _, rfl, _, rfl, x, _, dx, _, rfl, ao, (T.fam.c 4 Z0).cl, T.fam.na 4 Z0, lt_of_lt_of_le (Bk zero_lt_one) Z0, _, rfl, _, rfl, x, _, dx, _, rfl, ao, (T.fam.c 4 Z0).cl, T.fam.nn 4 Z0, lt_of_lt_of_le (Bk (Bk zero_lt_one)) Z0, ?_⟩
  refine q _ (fun b o e hb => by rw [aR hb, aR hb, aR hb]; exact e) fun l => ⟨dx, _, by rw [hso]; exact ao, ?_⟩
  exact ⟨fun _ => lkP, fun k => absurd k Z1, fun _ => (lkN Z4).trans lkP, fun _ => (lkN Z4).trans ((lkN Z4).trans lkP), (lkN Z4).trans ((lkN Z4).trans (lkN Z4)), (lkN Z4).trans ((lkN Z4).trans (lkN Z4)), (lkN Z4).trans ((lkN Z4).trans (lkN Z4))⟩
theorem sI (T : Tx K mg C) (F : Fun K "binds" "Take.binds" fB f fd) : aO P w K mg base CX0 1 f fd kO (spB C 4) := by
 refine F.oq vO fun _ _ _ _ H _ Q E hr h => ?_
 ·obtain ⟨a, l, r, rfl, hso, ra, q⟩ := h
  refine ⟨_, QSs.h (az (aD (bY (pv 0) rfl))), ?_⟩
  obtain ⟨dx, fs, ha, hf⟩ := id ra
  rw [hso] at ha
  exact ⟨_, rfl, rdF ha (T.fam.c 4 Z0).cl (T.fam.nn 4 Z0) (hf.nm (by rw [hso]; decide)) (q H (aB.refl H))⟩
theorem su (T : Tx K mg C) (F : Fun K "asked" "Take.asked" fu f fd) : aO P w K mg base CX0 1 f fd kJ (spA C 4) := by
 refine F.oq vI fun _ _ _ _ H _ Q E hr h => ?_
 ·obtain ⟨a, l, r, rfl, hso, ra, q⟩ := h
  refine ⟨_, QSs.h (az (aD (bC (aj (bY (pv 0) rfl) ak)))), ?_⟩
  obtain ⟨dx, fs, ha, hf⟩ := id ra
  rw [hso] at ha
  exact ⟨_, rfl, rdF ha (T.fam.c 4 Z0).cl (T.fam.na 4 Z0) (hf.ad (.inr (.inr hso))) ⟨by show 1 <= sizeLine; decide, fun b hb => q b _ hb (aB.new hb) ao⟩⟩
theorem uW (T : Tx K mg C) (F : Fun K "said" "Take.said" gr f fd) : aO P w K mg base CX0 1 f fd lX (spS C 4) := by
 refine F.oq xn fun _ _ _ _ H _ Q E hr h => ?_
 ·obtain ⟨a, l, r, rfl, hso, ra, hg, q⟩ := h
  refine ⟨_, QSs.h (az (aD (aJ aN (aJ aN (aJ aN (aJ aN (aJ aN aA (bY (pv 0) rfl)) aA) (bY (pv 0) rfl)) aA) (bY (pv 0) rfl)))), ?_⟩
  obtain ⟨dx, fs, ha, hf⟩ := id ra
  rw [hso] at ha
  have e1 := hg.nl
  have e2 := hg.al
  have e3 := hg.tl
  have e4 := hg.wd.hi
  rw [Gi hso] at q
  exact ⟨_, rfl, rdF ha (T.fam.c 4 Z0).cl (T.fam.nw 4 Z0) (hf.wd hso) ⟨_, _, rfl, rfl, abS (le_of_eq dD) e4, _, _, rfl, rfl, abS (alS (le_of_eq dD) e4) (le_of_eq len_from), _, rfl, rdF ha (T.fam.c 4 Z0).cl (T.fam.na 4 Z0) (hf.ad (.inr (.inr hso))) ⟨_, _, rfl, rfl, abS (alS (alS (le_of_eq dD) e4) (le_of_eq len_from)) e2, _, _, rfl, rfl, abS (alS (alS (alS (le_of_eq dD) e4) (le_of_eq len_from)) e2) (le_of_eq eO), _, rfl, rdF ha (T.fam.c 4 Z0).cl (T.fam.nn 4 Z0) (hf.nm (by rw [hso]; decide)) ⟨_, _, rfl, rfl, abS (alS (alS (alS (alS (le_of_eq dD) e4) (le_of_eq len_from)) e2) (le_of_eq eO)) e1, q H (aB.refl H)⟩⟩⟩⟩
theorem pF (T : Tx K mg C) (F : Fun K "__init__" "Need.__init__" dj f fd) : aO P w K mg base CX0 1 f fd iB (GF C) := by
 refine F.oq yx fun _ _ _ _ H _ Q E hr h => ?_
 ·obtain ⟨x, dx, r, d, rfl, hso, hx, hts, h10, q⟩ := h
  refine ⟨_, QSs.h (az (ig (pv 0) (bL lH Z3 T.t_list boot_list (aj (pv 1) ak)))), ?_⟩
  obtain ⟨xs, hl, hxl, hxt⟩ := id hts
  refine ⟨_, rfl, d, _, rfl, .inl (SqL.of hl), fun l hl0 => ⟨_, rfl, x, _, dx, _, rfl, (by rw [aR (aQ hx hl0)]; exact hx), (T.fam.c 5 Z0).cl, T.fam.nt 5 Z0, lt_of_lt_of_le (zero_lt_one) Z0, ?_⟩⟩
  have hlx : l ≠ x := (aQ hx hl0).symm
  refine q l _ hl0 (sb2 hl0) ⟨dx, _, by rw [hso]; exact ao, ?_⟩
  refine ⟨fun k => absurd k Z1, fun _ => ⟨lkP, xs, by rw [aR hlx]; exact ao, hxl, fun j y e => ?_⟩, fun k => absurd k Z1, fun k => absurd k Z1, lkN Z4, lkN Z4, lkN Z4⟩
  obtain ⟨t, et, tm⟩ := hxt j y e
  exact ⟨t, et, tm.but hx (sb2 hl0)⟩
theorem uT (T : Tx K mg C) (F : Fun K "said" "Need.said" gB f fd) : aO P w K mg base CX0 3 f fd lQ (spS C 5) := by
 obtain ⟨faf, daf, Aaf⟩ := T.aaf
 have Gaf : aO P w K mg base CX0 2 faf daf eV qZ := mV T Aaf.F
 refine F.oq yU fun _ _ _ _ H _ Q E hr h => ?_
 ·obtain ⟨a, l, r, rfl, hso, ra, hg, q⟩ := h
  have hr2 : bh 2 _ := hr
  refine ⟨_, QSs.h (az (aD (aJ aN aA (aU Aaf Gaf hr2 (aj (bY (pv 0) rfl) ak))))), ?_⟩
  obtain ⟨dx, fs, ha, hf⟩ := id ra
  rw [hso] at ha
  have e1 := hg.nl
  have e2 := hg.al
  have e3 := hg.tl
  have e4 := hg.wd.hi
  rw [Hu hso] at q
  refine ⟨_, rfl, rdF ha (T.fam.c 5 Z0).cl (T.fam.nt 5 Z0) ((hf.tm (.inr (.inr hso))).1) ⟨l, r.ts, rfl, (hf.tm (.inr (.inr hso))).2, hg.ts, fun H2 s2 => ⟨_, _, rfl, rfl, abS (le_of_eq u5) e3, q H2 s2⟩⟩⟩
theorem mG (T : Tx K mg C) (F : Fun K "is_name" "is_name" oF f fd) : aO P w K mg base CX0 1 f fd fZ lg := by
 refine F.oq Em fun _ _ _ _ H _ Q E hr h => ?_
 ·obtain ⟨z, rfl, hz, q⟩ := h
  refine ⟨_, QSs.h (au (bc (cH (bF (aF bN Z3 T.inst boot_isinstance (aj (pv 0) (aj (cz (v := .ty "str") Z3 T.t_str boot_str rfl) ak))))) (az (aD fK)) aL)
   (au (bc (PW.pt (dw (aG GP (aF b7 Z3 T.len boot_len (aj (pv 0) ak)) aq (aH _)) (eN (aG jk (aF b7 Z3 T.len boot_len (aj (pv 0) ak)) (qd T.g_MOST_LETTERS) (aH _))))) (az (aD fK)) aL)
   (az (aD (aF (lw rfl) Z3 T.all boot_all (aj (dX (N := ["sign"]) [none] rfl Z5 (yj (pv 0)) (fun cl C fp s H => (bj (i := 0) (by decide +kernel : (["sign"] : List Str).Nodup) rfl (Or.inl rfl))) (fun cl C fp s H => fL) (fun cl C fp s H => (bJ qT (pv 0) (CJ T.g_LETTERS) Z3))) ak)))))), ?_⟩
  have hz' : z.length <= sizeLine := le_trans hz Z0
  refine ⟨_, rfl, _, _, _, _, rfl, .str _, bW, _, rfl, bA ?_⟩
  refine ⟨_, rfl, _, rfl, hz', _, _, rfl, rfl, _, rfl, dm (fun h1 => jo ?_) (fun h1 => ?_)⟩
  ·have e : nmB z = false := by
    unfold nmB
    rw [decide_eq_false Z1]; rfl
   have q' := q H (aB.refl H)
   rw [e] at q'
   exact q'
  refine ⟨_, rfl, _, rfl, hz', _, _, rfl, rfl, _, rfl, dm (fun h2 => ?_) (fun h2 => ?_)⟩
  ·have e : nmB z = false := by
    unfold nmB
    rw [decide_eq_false (show ¬ z.length <= 8 by omega), Bool.and_false]; rfl
   have q' := q H (aB.refl H)
   rw [e] at q'
   exact q'
  refine ⟨_, rfl, z, rfl, ?_⟩
  refine zA (fun c => V.bl (inL c)) hz' (fun c H' Q' hc sm k' => ?_) (fun H' sm p hp => ?_)
  ·exact ⟨_, rfl, _, _, rfl, rfl, k' _ (aB.refl _)⟩
  ·refine ⟨p, z.cps.toList.map inL, rfl, SqL.of (by rw [ao, map_map]; rfl), ?_⟩
   have e : nmB z = (z.cps.toList.map inL).all id := by
    unfold nmB
    rw [decide_eq_true (show 1 <= z.length by omega), decide_eq_true (show z.length <= 8 by omega), all_map]; rfl
   rw [e] at q
   exact q _ (sm.put hp)
theorem pU (T : Tx K mg C) (F : Fun K "are_names" "are_names" jD f fd) : aO P w K mg base CX0 2 f fd ie Ak := by
 obtain ⟨fad, dad, Aad⟩ := T.aad
 have Gad : aO P w K mg base CX0 1 fad dad fZ lg := mG T Aad.F
 refine F.oq rP fun _ _ _ _ H _ Q E hr h => ?_
 ·obtain ⟨z, m, rfl, hz, q⟩ := h
  unfold cF at q
  have hr1 : bh 1 _ := hr
  refine ⟨_, QSs.h (au (bz (i := 2) rP.nd rfl (Or.inl rfl) (dU plainAttrs_str slot_str_split type_str_split gW (pv 0) (aj aA ak)))
   (az (aD (cI (bJ Ca (aF aY Z3 T.len boot_len (aj (pv 2) ak)) (pv 1) (aH _)) (eH (aF (lw rfl) Z3 T.all boot_all (aj (dX (N := ["name"]) [none] rfl Z5 (gG (pv 2)) (fun cl C fp s H => (bj (i := 0) (by decide +kernel : (["name"] : List Str).Nodup) rfl (Or.inl rfl))) (fun cl C fp s H => fL) (fun cl C fp s H => (aU Aad Gad hr1 (aj (pv 0) ak)))) ak))))))), ?_⟩
  refine ⟨_, rfl, rfl, _, _, rfl, rfl, lV, le_trans (show z.length + 2 <= 6002 by omega) Z0, fun p hp => ?_⟩
  have hlen := gk z ("." : Str) (le_trans (show z.length + 2 <= 6002 by omega) Z0)
  refine ⟨_, rfl, p, _, rfl, .inl (SqL.of ao), _, rfl, _, _, rfl, rfl, _, rfl, dm (fun h1 => ?_) (fun h1 => ?_)⟩
  ·rw [length_map] at h1
   refine ⟨_, rfl, p, rfl, ⟨_, SqL.of ao⟩, ?_⟩
   refine jd (fun v => match v with | .str y => .bl (nmB y) | _ => .non) (by rw [length_map]; exact hlen) (SqL.of ao) (fun x H' Q' hx sm k' => ?_) (fun H' sm p2 hp2 => ?_)
   ·obtain ⟨y, hy, rfl⟩ := mem_map.mp hx
    exact ⟨_, rfl, y, rfl, le_trans (jc hy) hz, k'⟩
   ·refine ⟨p2, (Txt.split z ("." : Str)).map nmB, rfl, SqL.of (by rw [ao, map_map, map_map]; rfl), ?_⟩
    have e : (decide (((Txt.split z ("." : Str)).length : Int) <= (m : Int)) && (Txt.split z ("." : Str)).all nmB) = ((Txt.split z ("." : Str)).map nmB).all id := by
     rw [decide_eq_true h1, all_map]; rfl
    rw [e] at q
    exact q _ (((aB.new hp).trans sm).put hp2)
  ·rw [length_map] at h1
   have q' := q _ (aB.new (o := .lst ((Txt.split z ("." : Str)).map V.str)) hp)
   rw [decide_eq_false h1] at q'
   exact q'
theorem oV (T : Tx K mg C) (F : Fun K "is_address" "is_address" iU f fd) : aO P w K mg base CX0 3 f fd fH tV := by
 obtain ⟨fao, dao, Aao⟩ := T.aao
 have Gao : aO P w K mg base CX0 2 fao dao ie Ak := pU T Aao.F
 refine F.oq ye fun _ _ _ _ H _ Q E hr h => ?_
 ·obtain ⟨z, rfl, hz, q⟩ := h
  have hr2 : bh 2 _ := hr
  refine ⟨_, QSs.h (az (aD (cI (aF bN Z3 T.inst boot_isinstance (aj (pv 0) (aj (cz (v := .ty "str") Z3 T.t_str boot_str rfl) ak))) (eH (aU Aao Gao hr2 (aj (pv 0) (aj (qd T.g_MOST_NAMES) ak))))))), ?_⟩
  exact ⟨_, rfl, _, _, _, _, rfl, .str _, bW, _, rfl, jo ⟨_, rfl, z, 3, rfl, hz, q⟩⟩
theorem yO (T : Tx K mg C) (F : Fun K "is_number" "is_number" jP f fd) : aO P w K mg base CX0 1 f fd jx J4 := by
 refine F.oq zG fun _ _ _ _ H _ Q E hr h => ?_
 ·obtain ⟨z, rfl, hz, q⟩ := h
  refine ⟨_, QSs.h (au (bc (PW.pt (dw (aG GP (aF b7 Z3 T.len boot_len (aj (pv 0) ak)) aq (aH _)) (eN (aG jk (aF b7 Z3 T.len boot_len (aj (pv 0) ak)) (qd T.g_MOST_FIGURES) (aH _))))) (az (aD fK)) aL)
   (au (bc (PW.pt (b8 (aG bw (aX yo (pv 0) aq) aA (aH _)) (bZ (aG m8 (pv 0) aA (aH _))))) (az (aD fK)) aL)
   (az (aD (aF (lw rfl) Z3 T.all boot_all (aj (dX (N := ["sign"]) [none] rfl Z5 (yj (pv 0)) (fun cl C fp s H => (bj (i := 0) (by decide +kernel : (["sign"] : List Str).Nodup) rfl (Or.inl rfl))) (fun cl C fp s H => fL) (fun cl C fp s H => (bJ qT (pv 0) (CJ T.g_FIGURES) Z3))) ak)))))), ?_⟩
  have hz' : z.length <= sizeLine := le_trans hz Z0
  have q0 := q H (aB.refl H)
  refine ⟨_, rfl, _, rfl, hz', _, _, rfl, rfl, _, rfl, dm (fun h1 => jo ?_) (fun h1 => ?_)⟩
  ·have e : ir z = false := by
    unfold ir
    rw [decide_eq_false Z1]; rfl
   rw [e] at q0
   exact q0
  refine ⟨_, rfl, _, rfl, hz', _, _, rfl, rfl, _, rfl, dm (fun h2 => ?_) (fun h2 => ?_)⟩
  ·have e : ir z = false := by
    unfold ir
    rw [decide_eq_false (show ¬ z.length <= 20 by omega), Bool.and_false]; rfl
   rw [e] at q0
   exact q0
  cases hcs : z.cps.toList with
  | nil => exact absurd (by rw [bQ, hcs]; rfl : z.length = 0) Z1
  | cons c0 cr =>
  have hat : atI z.cps.toList 0 = some c0 := cM (j := 0) (by rw [hcs]; rfl)
  have rest : ir z = (z.cps.toList.map inF).all id -> FQ (tCB (Mu K fun bs => bs.all id) (tZ (Cw [none] (Rt (vm 0)) (dI 0) oY (tOp (fun x y H Q => ∃ i j, x = .str i /\ y = .str j /\ Q (.bl (!(Builtin.Str.occurrences j i 0 j.length 1).isEmpty)) H) (vm 0) (tC (.str Ja)))) Fb))
    { nx := fun _ H' => Q .non H', rt := Q } (start ["word"] [V.str z]) H := fun e => by
   refine ⟨_, rfl, z, rfl, ?_⟩
   refine zA (fun c => V.bl (inF c)) hz' (fun c H' Q' hc sm k' => ?_) (fun H' sm p hp => ?_)
   ·exact ⟨_, rfl, _, _, rfl, rfl, k' _ (aB.refl _)⟩
   ·refine ⟨p, z.cps.toList.map inF, rfl, SqL.of (by rw [ao, map_map]; rfl), ?_⟩
    rw [e] at q
    exact q _ (sm.put hp)
  have hnum : ir z = (!(decide (c0 = 48) && !decide (z = zero)) && (z.cps.toList.map inF).all id) := by
   unfold ir
   rw [decide_eq_true (show 1 <= z.length by omega), decide_eq_true (show z.length <= 20 by omega), all_map, hcs]
   have : decide ((c0 :: cr).head? = some 48) = decide (c0 = 48) := by
    by_cases h : c0 = 48
    ·rw [decide_eq_true h, decide_eq_true (by rw [h]; rfl)]
    ·rw [decide_eq_false h, decide_eq_false (fun z => h (by simpa using z))]
   rw [this]
   rfl
  refine ⟨_, rfl, z, _, c0, rfl, rfl, hz', hat, rfl, _, rfl, dm (fun h3 => ?_) (fun h3 => ?_)⟩
  ·have hc : c0 = 48 := by
    have e : (⟨#[c0]⟩ : Str) = ("0" : Str) := V.str.inj h3
    have e2 := congrArg (fun x : Str => x.cps.toList) e
    have e3 : (("0" : Str)).cps.toList = [48] := by decide +kernel
    rw [e3] at e2
    simpa using e2
   by_cases hz0 : z = zero
   ·have hv : V.str z = V.str "0" := congrArg V.str hz0
    refine ⟨_, rfl, rfl, _, rfl, mH (decide_eq_true hv) (rest ?_)⟩
    rw [hnum, decide_eq_true hz0, Bool.not_true, Bool.and_false]; rfl
   ·have hv : ¬ V.str z = V.str "0" := fun e => hz0 (V.str.inj e)
    refine ⟨_, rfl, rfl, _, rfl, kZ (decide_eq_false hv) ?_⟩
    rw [hnum, decide_eq_true hc, decide_eq_false hz0] at q0
    exact q0
  ·have hc : ¬ c0 = 48 := fun e => h3 (by subst e; exact congrArg V.str (dR Z4))
   refine bA (rest ?_)
   rw [hnum, decide_eq_false hc]; rfl
theorem yM (T : Tx K mg C) (F : Fun K "read_path" "read_path" jJ f fd) : aO P w K mg base (CX1 P w) 3 f fd jz (Dn C) := by
 obtain ⟨fao, dao, Aao⟩ := T.aao
 have Gao : aO P w K mg base CX0 2 fao dao ie Ak := pU T Aao.F
 refine F.oqX zj fun _ _ _ _ H _ Q E hr h => ?_
 ·obtain ⟨z, rfl, hz, q, qx⟩ := h
  have hr2 : bh 2 _ := hr
  refine ⟨_, QSs.h (au (bc (cH (bF (aU Aao Gao hr2 (aj (pv 0) (aj (qd T.g_MOST_STEPS) ak))))) (az (jq bV rfl (lz T.x_NoExpr T.i_NoExpr T.k_NoExpr Z3 T.c_NoExpr (aj aA ak)))) aL)
   (az (aD (bL jZ Z3 T.t_tuple boot_tuple (aj (dU plainAttrs_str slot_str_split type_str_split gW (pv 0) (aj aA ak)) ak))))), ?_⟩
  refine ⟨_, rfl, z, 4, rfl, hz, fun H1 s1 => ⟨_, rfl, ?_⟩⟩
  cases e : cF 4 z with
  | false => exact kZ rfl ⟨rfl, fun x hx => ⟨x, _, _, rfl, ao, T.x_NoExpr, ((qx e).on s1).go hx⟩⟩
  | true =>
   obtain ⟨ys, g, ez⟩ := Bu.mp e
   have hsp := cC ys g.lo g.nm
   refine mH rfl ?_
   refine ⟨_, rfl, rfl, _, _, rfl, rfl, lV, le_trans (show z.length + 2 <= 6002 by omega) Z0, fun p hp => ?_⟩
   refine ⟨p, _, rfl, .inl ⟨SqL.of ao, fun r hr' => ?_⟩⟩
   refine q ys g ez r _ ((s1.put hp).put hr') ?_
   rw [ao, ez, hsp]
theorem xq (T : Tx K mg C) (F : Fun K "read_term" "read_term" jH f fd) : aO P w K mg base (CX1 P w) 4 f fd jN (Ac C) := by
 obtain ⟨fbi, dbi, Abi⟩ := T.abi
 have Gbi : aO P w K mg base CX0 1 fbi dbi jx J4 := yO T Abi.F
 obtain ⟨fa0, da0, Aa0⟩ := T.aa0
 have Ga0 : aO P w K mg base (CX1 P w) 3 fa0 da0 jz (Dn C) := yM T Aa0.F
 refine F.oqX Ad fun _ _ _ _ H _ Q E hr h => ?_
 ·obtain ⟨sg, z, rfl, hz, q, qx⟩ := h
  have hr1 : bh 1 _ := hr.mono Z0
  have hr3 : bh 3 _ := hr
  refine ⟨_, QSs.h (au (bc (bF (aU Abi Gbi hr1 (aj (pv 1) ak))) (az (aD (cR (aj (pv 0) (aj aA (aj (bL p8 Z3 T.t_int boot_int (aj (pv 1) ak)) ak)))))) aL)
   (au (bc (bF (dU plainAttrs_str PySem.F.slot_str_endswith PySem.F.type_str_endswith zR (pv 1) (aj aA ak))) (az (aD (cR (aj (pv 0) (aj aA (aj (f9 Aa0 Ga0 hr3 bV (aj (bB mz (pv 1) bH (bI (wF rF aq))) ak)) ak)))))) aL)
   (az (aD (cR (aj (pv 0) (aj aA (aj (f9 Aa0 Ga0 hr3 bV (aj (pv 1) ak)) ak)))))))), ?_⟩
  refine ⟨_, rfl, z, rfl, Z1, fun H1 s1 => ⟨_, rfl, ?_⟩⟩
  cases en : ir z with
  | true =>
   obtain ⟨m, hm, ez⟩ := vq en
   obtain ⟨n1, n2, n3, n4⟩ := iK hm
   refine bu rfl ?_
   refine ⟨_, rfl, _, rfl, z, _, rfl, by rw [ez]; exact n4, by rw [ez]; omega, by show 3 <= sizeLine; decide, fun p hp => ?_⟩
   exact q (.num m) hm ez _ _ (s1.put hp) ⟨p, _, rfl, ao, rfl⟩
  | false =>
   refine aM rfl ⟨_, rfl, rfl, _, _, rfl, rfl, _, rfl, ?_⟩
   cases ee : Txt.endswith z ("()" : Str) with
   | true =>
    obtain ⟨a, ea⟩ := ends_app (show Txt.endswith z brk = true from ee)
    subst ea
    have hla : a.length + 2 <= 6000 := by rw [bO, iT] at hz; exact hz
    refine bu rfl ?_
    refine ⟨_, rfl, _, rfl, _, rfl, _, rfl, _, rfl, le_trans hz Z0, a, congrArg (fun t => [V.str t]) (tW a Z1), Z1, fun ys g e p2 H2 s2 hp2 => ?_, fun e => (qx (pN en e)).on s1⟩
    refine ⟨by show 3 <= sizeLine; decide, fun p hp => ?_⟩
    exact q (.nms true ys) g (by rw [e]; rfl) _ _ ((s1.trans s2).put hp) ⟨p, _, rfl, ao, p2, rfl, (aB.new hp) _ _ hp2⟩
   | false =>
    refine aM rfl ?_
    refine ⟨_, rfl, _, rfl, z, rfl, hz, fun ys g e p2 H2 s2 hp2 => ?_, fun e => (qx (lZ en ee e)).on s1⟩
    refine ⟨by show 3 <= sizeLine; decide, fun p hp => ?_⟩
    exact q (.nms false ys) g e _ _ ((s1.trans s2).put hp) ⟨p, _, rfl, ao, p2, rfl, (aB.new hp) _ _ hp2⟩
theorem yG (T : Tx K mg C) (F : Fun K "read_sign" "read_sign" jT f fd) : aO P w K mg base (CX1 P w) 1 f fd jG (Cg C) := by
 refine F.oqX yX fun _ _ _ _ H _ Q E hr h => ?_
 ·obtain ⟨z, rfl, q, qx⟩ := h
  refine ⟨_, QSs.h (au (bc (aG bw (pv 0) aA (aH _)) (az (aD aq)) aL)
   (au (bc (aG bw (pv 0) aA (aH _)) (az (aD (wF rF aq))) aL)
   (az (jq bV rfl (lz T.x_NoExpr T.i_NoExpr T.k_NoExpr Z3 T.c_NoExpr (aj aA ak)))))), ?_⟩
  refine ⟨_, rfl, rfl, _, rfl, ?_⟩
  by_cases e1 : z = "+"
  ·exact bu (decide_eq_true (congrArg V.str e1)) (q 1 (.inl rfl) e1 H (aB.refl H))
  refine aM (decide_eq_false fun k => e1 (V.str.inj k)) ⟨_, rfl, rfl, _, rfl, ?_⟩
  by_cases e2 : z = "-"
  ·exact bu (decide_eq_true (congrArg V.str e2)) ⟨_, rfl, q (-1) (.inr rfl) e2 H (aB.refl H)⟩
  refine aM (decide_eq_false fun k => e2 (V.str.inj k)) ⟨rfl, fun x hx => ⟨x, _, _, rfl, ao, T.x_NoExpr, (qx ?_).go hx⟩⟩
  rintro ⟨s, hs, k⟩
  rcases hs with rfl | rfl
  ·exact e1 k
  ·exact e2 k
theorem yH (T : Tx K mg C) (F : Fun K "read_expr" "read_expr" jM f fd) : aO P w K mg base (CX1 P w) 5 f fd jB (Dr C) := by
 obtain ⟨fau, dau, Aau⟩ := T.aau
 have Gau : aO P w K mg base (CX1 P w) 4 fau dau jN (Ac C) := xq T Aau.F
 obtain ⟨fbk, dbk, Abk⟩ := T.abk
 have Gbk : aO P w K mg base (CX1 P w) 1 fbk dbk jG (Cg C) := yG T Abk.F
 refine F.oqX jO fun _ _ _ _ H _ Q E hr h => ?_
 ·obtain ⟨z, rfl, hz, q, qx⟩ := h
  have hr1 : bh 1 _ := hr.mono Z0
  have hr4 : bh 4 _ := hr
  refine ⟨_, QSs.h (au (bc (cH (bF (aF bN Z3 T.inst boot_isinstance (aj (pv 0) (aj (cz (v := .ty "str") Z3 T.t_str boot_str rfl) ak))))) (az (jq bV rfl (lz T.x_NoExpr T.i_NoExpr T.k_NoExpr Z3 T.c_NoExpr (aj aA ak)))) aL)
   (au (bz (i := 1) jO.nd rfl (Or.inl rfl) (dU plainAttrs_str slot_str_split type_str_split gW (pv 0) (aj aA ak)))
   (au (bc (aG bw (aJ fP (aF aY Z3 T.len boot_len (aj (pv 1) ak)) aq) aq (aH _)) (az (jq bV rfl (lz T.x_NoExpr T.i_NoExpr T.k_NoExpr Z3 T.c_NoExpr (aj aA ak)))) aL)
   (au (bc (aG jk (aF aY Z3 T.len boot_len (aj (pv 1) ak)) (aJ qQ (aJ ik aq (qd T.g_MOST_TERMS)) aq) (aH _)) (az (jq bV rfl (lz T.x_NoExpr T.i_NoExpr T.k_NoExpr Z3 T.c_NoExpr (aj aA ak)))) aL)
   (au (bz (i := 2) jO.nd rfl (Or.inl rfl) (bC (aj (f9 Aau Gau hr4 bV (aj aq (aj (aX aP (pv 1) aq) ak))) ak)))
   (au (nq PassesOwn.leaving rfl (wg Z3 T.range (aj aq (aj (aF aY Z3 T.len boot_len (aj (pv 1) ak)) (aj aq ak)))) (bj (i := 3) jO.nd rfl (Or.inl rfl))
   (az (jL (dU plainAttrs_list PySem.F.slot_list_append PySem.F.type_list_append lu (pv 2) (aj (f9 Aau Gau hr4 bV (aj (f9 Abk Gbk hr1 bV (aj (aX aP (pv 1) (pv 3)) ak)) (aj (aX aP (pv 1) (aJ cA (pv 3) aq)) ak))) ak)))))
   (az (aD (pv 2))))))))), ?_⟩
  refine ⟨_, rfl, _, _, _, _, rfl, .str _, bW, _, rfl, bA ?_⟩
  refine ⟨_, rfl, rfl, _, _, rfl, rfl, ou, le_trans (show z.length + 2 <= 6002 by omega) Z0, fun p hp => ?_⟩
  have hmem : ∀ w ∈ Txt.split z (" " : Str), w.length <= 6000 := fun w hw => le_trans (rY hw) hz
  generalize Txt.split z (" " : Str) = ws at q qx hmem
  have s1 : aB H (upd H p (.lst (ws.map V.str))) := aB.new hp
  have hp1 : upd H p (.lst (ws.map V.str)) p = some (.lst (ws.map V.str)) := ao
  generalize upd H p (.lst (ws.map V.str)) = H1 at s1 hp1
  refine ⟨_, rfl, p, _, rfl, .inl (SqL.of hp1), _, _, rfl, rfl, (by show (0 : Int) < 2; decide), rfl, _, rfl, fX (fun h => ?_) (fun ho => ?_)⟩
  ·rw [length_map] at h
   exact ⟨rfl, fun x hx => ⟨x, _, _, rfl, ao, T.x_NoExpr, ((qx fun k => by have := (mJ k).1; omega).on s1).go hx⟩⟩
  rw [length_map] at ho
  refine ⟨_, rfl, p, _, rfl, .inl (SqL.of hp1), _, _, rfl, rfl, .inl ⟨Z0, Z0⟩, _, _, rfl, rfl, _, _, rfl, rfl, _, rfl, dm (fun h => ?_) (fun h11 => ?_)⟩
  ·rw [length_map] at h
   exact ⟨rfl, fun x hx => ⟨x, _, _, rfl, ao, T.x_NoExpr, ((qx fun k => by have := (mJ k).2; omega).on s1).go hx⟩⟩
  rw [length_map] at h11
  obtain ⟨k, hk, hk5⟩ : ∃ k, ws.length = 2 * k + 1 /\ k <= 5 := ⟨ws.length / 2, Z1, Z1⟩
  have hw0 : ws[0]? = some (ws[0]'Z1) := getElem?_eq_getElem Z1
  generalize ws[0]'Z1 = w0 at hw0
  refine ⟨_, rfl, p, _, _, V.str w0, rfl, rfl, SqL.of hp1, cM (j := 0) (by rw [getElem?_map, hw0]; rfl), 1, w0, rfl, hmem w0 (mem_of_getElem? hw0), fun th0 g0 e0 v0 H2 s2 hv0 => ⟨by show 1 <= sizeLine; decide, fun l hl => ?_⟩, fun b => (qx fun r => b (lB r (i := 0) hw0)).on s1⟩
  have hfree : H l = none := s1.free (s2.free hl)
  have hp2 : H2 p = some (.lst (ws.map V.str)) := s2 _ _ hp1
  have hsize : Builtin.Range.rangeSize 1 ((ws.map V.str).length : Int) 2 = (k : Int) := by
   rw [length_map, hk]
   unfold Builtin.Range.rangeSize
   rw [if_pos Z0]
   split <;> omega
  refine ⟨_, rfl, p, _, rfl, .inl (SqL.of ((aB.new hl) _ _ hp2)), 1, _, 2, rfl, Z0, Z0, ?_, by rw [hsize]; omega, ?_⟩
  ·rw [length_map]
   exact DP Z1
  rw [hsize, Int.toNat_natCast]
  refine uR (fun i σ H' => ∃ v3 xs ts, σ = [some (.str z), some (.ref p), some (.ref l), v3] /\ aB H2 H' /\ H' l = some (.lst xs) /\ xs.length = ts.length /\ yD ws i ts /\ ∀ (j : Nat) x, xs[j]? = some x -> ∃ t, ts[j]? = some t /\ eY H' x t)
   ⟨none, [v0], [⟨1, th0⟩], rfl, aB.new hl, ao, rfl, .first g0 (by rw [hw0, e0]), fun j x hj => ?_⟩ ?_ ?_
  ·cases j with
   | zero => cases hj; exact ⟨_, rfl, hv0.same (aB.new hl)⟩
   | succ j => simp at hj
  ·rintro i σ H3 hi ⟨v3, xs, ts, rfl, sm, h3l, hxl, rd, hx⟩
   have hw1 : ws[2 * i + 1]? = some (ws[2 * i + 1]'Z1) := getElem?_eq_getElem Z1
   have hw2 : ws[2 * i + 2]? = some (ws[2 * i + 2]'Z1) := getElem?_eq_getElem Z1
   generalize ws[2 * i + 1]'Z1 = w1 at hw1
   generalize ws[2 * i + 2]'Z1 = w2 at hw2
   have hp3 : H3 p = some (.lst (ws.map V.str)) := sm _ _ hp2
   have s03 : aB H H3 := s1.trans (s2.trans sm)
   have a1 : atI (ws.map V.str) (1 + (i : Nat) * 2) = some (V.str w1) := by
    have := cM (xs := ws.map V.str) (j := 2 * i + 1) (v := V.str w1) (by rw [getElem?_map, hw1]; rfl)
    rwa [show (((2 * i + 1 : Nat)) : Int) = 1 + (i : Nat) * 2 from by omega] at this
   have a2 : atI (ws.map V.str) (1 + (i : Nat) * 2 + 1) = some (V.str w2) := by
    have := cM (xs := ws.map V.str) (j := 2 * i + 2) (v := V.str w2) (by rw [getElem?_map, hw2]; rfl)
    rwa [show (((2 * i + 2 : Nat)) : Int) = 1 + (i : Nat) * 2 + 1 from by omega] at this
   refine ⟨_, rfl, .inl ⟨rfl, _, SqL.of h3l⟩, _, rfl, _, rfl, p, _, _, _, rfl, rfl, SqL.of hp3, a1, w1, rfl, fun s hs es H4 s4 => ?_, fun b => (qx fun r => b (Dl r hw1)).on s03⟩
   refine ⟨_, rfl, _, rfl, _, _, rfl, rfl, p, _, _, _, rfl, rfl, SqL.of (s4 _ _ hp3), a2, s, w2, rfl, hmem w2 (mem_of_getElem? hw2), fun th g e v H5 s5 hv => ?_, fun b => (qx fun r => b (lB r (i := i + 1) hw2)).on (s03.trans s4)⟩
   have s35 := s4.trans s5
   have h5l : H5 l = some (.lst xs) := s35 _ _ h3l
   have tl := rd.lo
   refine ⟨l, _, _, rfl, rfl, h5l, lt_of_lt_of_le (show xs.length < 1000 by omega) cX, ?_⟩
   refine ⟨_, xs ++ [v], ts ++ [⟨s, th⟩], rfl, (sm.trans s35).over hl, ao, by rw [length_append, length_append, hxl]; rfl, rd.next hs g (by rw [hw1, es]) (by rw [hw2, e]), fun j x hj => ?_⟩
   by_cases hjx : j < xs.length
   ·rw [getElem?_append_left hjx] at hj
    obtain ⟨t, ht, tm⟩ := hx j x hj
    exact ⟨t, by rw [getElem?_append_left Z1]; exact ht, (tm.same s35).upd h5l⟩
   ·rw [getElem?_append_right Z1] at hj
    have hj0 : j = xs.length := by
     cases hh : j - xs.length with
     | zero => omega
     | succ k => rw [hh] at hj; simp at hj
    subst hj0
    rw [sub_self] at hj
    have : v = x := by simpa using hj
    subst this
    exact ⟨_, by rw [getElem?_append_right Z1, hxl, sub_self]; rfl, eY.upd hv h5l⟩
  ·rintro σ H3 ⟨v3, xs, ts, rfl, sm, h3l, hxl, rd, hx⟩
   obtain ⟨gs, ew⟩ := rd.all hk hk5
   exact ⟨_, rfl, q ts gs ew l H3 hfree (s1.trans (s2.trans sm)) ⟨xs, h3l, hxl, hx⟩⟩
theorem zY (T : Tx K mg C) (F : Fun K "has_call" "has_call" mR f fd) : aO P w K mg base CX0 1 f fd mY Km := by
 refine F.oq Bc fun _ _ _ _ H _ Q E hr h => ?_
 ·obtain ⟨l, ts, rfl, ⟨xs, hl, hxl, hx⟩, h10, q⟩ := h
  refine ⟨_, QSs.h (az (aD (aF (GZ rfl) Z3 T.any PyProof.Rows.boot_any (aj (dX (N := ["term"]) [none] rfl Z5 (gG (pv 0)) (fun cl C fp s H => (bj (i := 0) (by decide +kernel : (["term"] : List Str).Nodup) rfl (Or.inl rfl))) (fun cl C fp s H => fL) (fun cl C fp s H => (bJ bw (aX (Ck (K := K) rfl) (pv 0) aq) aA (aH _)))) ak)))), ?_⟩
  refine ⟨_, rfl, l, rfl, ⟨_, SqL.of hl⟩, ?_⟩
  refine uw (xs := xs) (fun i => V.bl ((ts[i]?).elim false isCall)) (le_trans (show xs.length <= 1000 by omega) cX) (SqL.of hl) (fun i x H' Q' ex sm k' => ?_) (fun H' sm p hp => ?_)
  ·obtain ⟨t, et, tm⟩ := hx i x ex
   obtain ⟨a, y, rfl, ha, _⟩ := tm.same sm
   have hk := k' H' (aB.refl _)
   rw [et] at hk
   have hk' : Q' (V.bl (isCall t)) H' := hk
   rw [<- wU] at hk'
   exact ⟨_, rfl, a, _, _, V.str (kindOf t.th), rfl, rfl, SqT.of ha, rfl, rfl, hk'⟩
  ·refine ⟨p, (List.range xs.length).map fun i => (ts[i]?).elim false isCall, rfl, SqL.of (by rw [ao, map_map]; rfl), ?_⟩
   have q' := q _ (sm.put (o := .lst ((List.range xs.length).map fun i => V.bl ((ts[i]?).elim false isCall))) hp)
   rw [<- any_range, <- hxl] at q'
   exact q'
theorem vA (T : Tx K mg C) (F : Fun K "names_expr" "names_expr" jb f fd) : aO P w K mg base CX0 2 f fd iQ Ke := by
 obtain ⟨fad, dad, Aad⟩ := T.aad
 have Gad : aO P w K mg base CX0 1 fad dad fZ lg := mG T Aad.F
 refine F.oq xj fun _ _ _ _ H _ Q E hr h => ?_
 ·obtain ⟨l, ws, rfl, hl, hw, q⟩ := h
  have hr1 : bh 1 _ := hr
  refine ⟨_, QSs.h (az (aD (cI (bJ jk (aF aY Z3 T.len boot_len (aj (pv 0) ak)) aq (aH _)) (cI (aU Aad Gad hr1 (aj (aX aP (pv 0) aq) ak)) (eH (bJ bw (aX aP (pv 0) aq) aA (aH _))))))), ?_⟩
  refine ⟨_, rfl, l, _, rfl, .inl (SqL.of hl), _, _, rfl, rfl, _, rfl, ?_⟩
  rw [length_map]
  by_cases h3 : 3 < ws.length
  ·refine bu (decide_eq_true Z1) ?_
   refine ⟨_, rfl, l, _, _, _, rfl, rfl, SqL.of hl, aZ (i := 1) Z1, wAt ws 1, rfl, hw.len (cW Z1), fun H1 s1 => ⟨_, rfl, ?_⟩⟩
   have q' := q H1 s1
   unfold neB at q'
   rw [decide_eq_true h3, Bool.true_and] at q'
   cases e1 : nmB (wAt ws 1) with
   | false =>
    rw [e1] at q'
    exact aM rfl q'
   | true =>
    rw [e1, Bool.true_and] at q'
    refine bu rfl ⟨_, rfl, l, _, _, _, rfl, rfl, SqL.of (s1 _ _ hl), aZ (i := 2) Z1, rfl, ?_⟩
    rw [jt]
    exact q'
  ·have q' := q H (aB.refl H)
   unfold neB at q'
   rw [decide_eq_false h3, Bool.false_and] at q'
   have e : decide ((ws.length : Int) > 3) = false := decide_eq_false Z1
   rw [e]
   exact aM rfl q'
theorem rn (T : Tx K mg C) (F : Fun K "names_address" "names_address" dY f fd) : aO P w K mg base CX0 4 f fd d9 Kw := by
 obtain ⟨fak, dak, Aak⟩ := T.aak
 have Gak : aO P w K mg base CX0 3 fak dak fH tV := oV T Aak.F
 obtain ⟨fad, dad, Aad⟩ := T.aad
 have Gad : aO P w K mg base CX0 1 fad dad fZ lg := mG T Aad.F
 refine F.oq sE fun _ _ _ _ H _ Q E hr h => ?_
 ·obtain ⟨l, ws, rfl, hl, hw, q⟩ := h
  have hr1 : bh 1 _ := hr.mono Z0
  have hr3 : bh 3 _ := hr
  refine ⟨_, QSs.h (az (aD (cI (bJ bw (aF aY Z3 T.len boot_len (aj (pv 0) ak)) aq (aH _)) (cI (aU Aak Gak hr3 (aj (aX aP (pv 0) aq) ak)) (cI (bJ bw (aX aP (pv 0) aq) aA (aH _)) (eH (aU Aad Gad hr1 (aj (aX aP (pv 0) aq) ak)))))))), ?_⟩
  refine ⟨_, rfl, l, _, rfl, .inl (SqL.of hl), rfl, _, rfl, ?_⟩
  rw [length_map, show decide (V.int (ws.length : Int) = V.int 4) = decide (ws.length = 4) from mL (m := 4)]
  by_cases h4 : ws.length = 4
  ·rw [decide_eq_true h4]
   refine bu rfl ?_
   refine ⟨_, rfl, l, _, _, _, rfl, rfl, SqL.of hl, aZ (i := 1) Z1, wAt ws 1, rfl, hw.len (cW Z1), fun H1 s1 => ⟨_, rfl, ?_⟩⟩
   have q1 : ∀ H', aB H H' -> Q (.bl (naB ws)) H' := q
   unfold naB at q1
   rw [decide_eq_true h4, Bool.true_and] at q1
   cases e1 : cF 3 (wAt ws 1) with
   | false =>
    rw [e1] at q1
    exact aM rfl (q1 H1 s1)
   | true =>
    rw [e1, Bool.true_and] at q1
    refine bu rfl ⟨_, rfl, l, _, _, _, rfl, rfl, SqL.of (s1 _ _ hl), aZ (i := 2) Z1, rfl, _, rfl, ?_⟩
    rw [jt]
    cases e2 : decide (wAt ws 2 = "as") with
    | false =>
     rw [e2] at q1
     exact aM rfl (q1 H1 s1)
    | true =>
     rw [e2, Bool.true_and] at q1
     exact bu rfl ⟨_, rfl, l, _, _, _, rfl, rfl, SqL.of (s1 _ _ hl), aZ (i := 3) Z1, wAt ws 3, rfl, hw.len (cW Z1), fun H2 s2 => q1 H2 (s1.trans s2)⟩
  ·have q' := q H (aB.refl H)
   unfold naB at q'
   rw [decide_eq_false h4, Bool.false_and] at q'
   rw [decide_eq_false h4]
   exact aM rfl q'
theorem vD (T : Tx K mg C) (F : Fun K "names_word" "names_word" iD f fd) : aO P w K mg base CX0 4 f fd iY Ka := by
 obtain ⟨fad, dad, Aad⟩ := T.aad
 have Gad : aO P w K mg base CX0 1 fad dad fZ lg := mG T Aad.F
 obtain ⟨fak, dak, Aak⟩ := T.aak
 have Gak : aO P w K mg base CX0 3 fak dak fH tV := oV T Aak.F
 refine F.oq xQ fun _ _ _ _ H _ Q E hr h => ?_
 ·obtain ⟨l, ws, rfl, hl, hw, q⟩ := h
  have hr1 : bh 1 _ := hr.mono Z0
  have hr3 : bh 3 _ := hr
  refine ⟨_, QSs.h (au (bc (PW.pt (dw (aG m8 (aF aY Z3 T.len boot_len (aj (pv 0) ak)) aq (aH _)) (dw (aG m8 (aX aP (pv 0) aq) aA (aH _)) (eN (aG m8 (aX aP (pv 0) aq) aA (aH _)))))) (az (aD fK)) aL)
   (az (aD (cI (aU Aad Gad hr1 (aj (aX aP (pv 0) aq) ak)) (cI (aU Aak Gak hr3 (aj (aX aP (pv 0) aq) ak)) (eH (aU Aad Gad hr1 (aj (aX aP (pv 0) aq) ak)))))))), ?_⟩
  refine ⟨_, rfl, l, _, rfl, .inl (SqL.of hl), rfl, _, rfl, ?_⟩
  rw [length_map, show decide (V.int (ws.length : Int) = V.int 6) = decide (ws.length = 6) from mL (m := 6)]
  have q1 : ∀ H', aB H H' -> Q (.bl (nwB ws)) H' := q
  unfold nwB at q1
  by_cases h6 : ws.length = 6
  ·rw [decide_eq_true h6]
   rw [decide_eq_true h6, Bool.true_and] at q1
   refine aM (show (!true) = false from rfl) ?_
   refine ⟨_, rfl, l, _, _, _, rfl, rfl, SqL.of hl, aZ (i := 2) Z1, rfl, _, rfl, ?_⟩
   rw [jt]
   cases e1 : decide (wAt ws 2 = "from") with
   | false =>
    rw [e1] at q1
    exact q1 H (aB.refl H)
   | true =>
    rw [e1, Bool.true_and] at q1
    refine aM (show (!true) = false from rfl) ?_
    refine ⟨_, rfl, l, _, _, _, rfl, rfl, SqL.of hl, aZ (i := 4) Z1, rfl, _, rfl, ?_⟩
    rw [jt]
    cases e2 : decide (wAt ws 4 = "as") with
    | false =>
     rw [e2] at q1
     exact q1 H (aB.refl H)
    | true =>
     rw [e2, Bool.true_and] at q1
     refine aM (show (!true) = false from rfl) ?_
     refine ⟨_, rfl, l, _, _, _, rfl, rfl, SqL.of hl, aZ (i := 1) Z1, wAt ws 1, rfl, hw.len (cW Z1), fun H1 s1 => ⟨_, rfl, ?_⟩⟩
     cases e3 : nmB (wAt ws 1) with
     | false =>
      rw [e3] at q1
      exact aM rfl (q1 H1 s1)
     | true =>
      rw [e3, Bool.true_and] at q1
      refine bu rfl ⟨_, rfl, l, _, _, _, rfl, rfl, SqL.of (s1 _ _ hl), aZ (i := 3) Z1, wAt ws 3, rfl, hw.len (cW Z1), fun H2 s2 => ⟨_, rfl, ?_⟩⟩
      cases e4 : cF 3 (wAt ws 3) with
      | false =>
       rw [e4] at q1
       exact aM rfl (q1 H2 (s1.trans s2))
      | true =>
       rw [e4, Bool.true_and] at q1
       exact bu rfl ⟨_, rfl, l, _, _, _, rfl, rfl, SqL.of (s2 _ _ (s1 _ _ hl)), aZ (i := 5) Z1, wAt ws 5, rfl, hw.len (cW Z1), fun H3 s3 => q1 H3 (s1.trans (s2.trans s3))⟩
  ·rw [decide_eq_false h6]
   rw [decide_eq_false h6, Bool.false_and] at q1
   exact q1 H (aB.refl H)
theorem vN (T : Tx K mg C) (F : Fun K "terms_from" "terms_from" iI f fd) : aO P w K mg base (CX1 P w) 6 f fd iz (J8 C) := by
 obtain ⟨fbd, dbd, Abd⟩ := T.abd
 have Gbd : aO P w K mg base (CX1 P w) 5 fbd dbd jB (Dr C) := yH T Abd.F
 refine F.oqX yQ fun _ _ _ _ H _ Q E hr h => ?_
 ·obtain ⟨l, k, ws, rfl, hl, hw, q, qx⟩ := h
  have hr5 : bh 5 _ := hr
  refine ⟨_, QSs.h (az (aD (f9 Abd Gbd hr5 bV (aj (dU plainAttrs_str slot_str_join type_str_join m6 aA (aj (bB cB (pv 0) (bI (pv 1)) bH) ak)) ak)))), ?_⟩
  have hd := hw.drop k
  have ec : jj (ws.map V.str) (some (k : Int)) none = (ws.drop k).map V.str := by rw [pP, <- map_drop]
  refine ⟨rfl, _, rfl, _, rfl, _, rfl, l, _, rfl, SqL.of hl, fun p hp => ?_⟩
  refine ⟨_, p, ws.drop k, rfl, rfl, .inl (SqL.of (ao.trans (congrArg (fun z => some (HO.lst z)) ec))), by rw [uh]; omega, ?_⟩
  by_cases hn : ws.drop k = []
  ·refine ⟨_, rfl, ?_, fun ts g e => ?_, fun _ => (qx fun r => Li r hn).on (aB.new hp)⟩
   ·rw [hn]; decide +kernel
   ·rw [hn, V5] at e
    exact absurd ⟨ts, g, e⟩ Gg
  ·refine ⟨_, rfl, ?_, fun ts g e l' H' hl' s' ht => ?_, fun r => (qx ?_).on (aB.new hp)⟩
   ·have := pL hn; omega
   ·rw [uU hw hn] at e
    exact q ts g e l' H' ((aB.new hp).free hl') ((aB.new hp).trans s') ht
   ·rwa [uU hw hn] at r
theorem BR (T : Tx K mg C) (F : Fun K "deed_of" "deed_of" n8 f fd) : aO P w K mg base CX0 3 f fd oG (J6 C) := by
 obtain ⟨fbg, dbg, Abg⟩ := T.abg
 have Gbg : aO P w K mg base CX0 1 fbg dbg mY Km := zY T Abg.F
 obtain ⟨fbt, dbt, Abt, M_Deed⟩ := T.i_Deed
 have Gbt : aO P w K mg base CX0 1 fbt dbt iy (xH C 1) := o7 T Abt.F
 refine F.oq Er fun _ _ _ _ H _ Q E hr h => ?_
 ·obtain ⟨nn, d, ts, rfl, hg, htd, q, qn⟩ := h
  have hr1 : bh 1 _ := hr.mono Z0
  have hr2 : bh 2 _ := hr
  refine ⟨_, QSs.h (au (bc (bF (aU Abg Gbg hr1 (aj (pv 1) ak))) (az (aD dM)) aL)
   (az (aD (v7 M_Deed Abt.b Gbt hr2 T.c_Deed (aj (pv 0) (aj (pv 1) ak)))))), ?_⟩
  have h6 : ts.length <= 10 := le_trans hg.hi Z0
  refine ⟨_, rfl, d, ts, rfl, htd, h6, fun H1 s1 => ⟨_, rfl, ?_⟩⟩
  cases e : ts.any isCall with
  | true => exact bu rfl (qn e H1 s1)
  | false =>
   refine aM rfl ?_
   exact ⟨_, rfl, _, rfl, fun x dx hx hdx hne => ⟨x, dx, ⟨1, nn, a1, a1, ts⟩, d, rfl, rfl, ao, (htd.same s1).same (d8 hx hdx), h6, fun l H' hl sb ra => ⟨rfl, q e x l H' (s1.trans fun b o e => sb b o (d8 hx hdx b o e) (aQ e hx)) (s1.free hx) (s1.free ((d8 hx hdx).free hl)) ra⟩⟩⟩
theorem Fl (T : Tx K mg C) (F : Fun K "row_of" "row_of" pW f fd) : aO P w K mg base (CX1 P w) 7 f fd qI (Kd C) := by
 obtain ⟨faz, daz, Aaz⟩ := T.aaz
 have Gaz : aO P w K mg base CX0 2 faz daz iQ Ke := vA T Aaz.F
 obtain ⟨fbe, dbe, Abe⟩ := T.abe
 have Gbe : aO P w K mg base CX0 3 fbe dbe oG (J6 C) := BR T Abe.F
 obtain ⟨fav, dav, Aav⟩ := T.aav
 have Gav : aO P w K mg base CX0 4 fav dav d9 Kw := rn T Aav.F
 obtain ⟨fa9, da9, Aa9⟩ := T.aa9
 have Ga9 : aO P w K mg base CX0 4 fa9 da9 iY Ka := vD T Aa9.F
 obtain ⟨fas, das, Aas⟩ := T.aas
 have Gas : aO P w K mg base (CX1 P w) 6 fas das iz (J8 C) := vN T Aas.F
 obtain ⟨fbv, dbv, Abv, M_Draw⟩ := T.i_Draw
 have Gbv : aO P w K mg base CX0 1 fbv dbv iJ (yq C 2) := o5 T Abv.F
 obtain ⟨fbx, dbx, Abx, M_Late⟩ := T.i_Late
 have Gbx : aO P w K mg base CX0 1 fbx dbx iG (yq C 3) := o8 T Abx.F
 obtain ⟨fby, dby, Aby, M_Let⟩ := T.i_Let
 have Gby : aO P w K mg base CX0 1 fby dby jA (xH C 0) := qK T Aby.F
 obtain ⟨fbu, dbu, Abu, M_Need⟩ := T.i_Need
 have Gbu : aO P w K mg base CX0 1 fbu dbu iB (GF C) := pF T Abu.F
 obtain ⟨fbw, dbw, Abw, M_Take⟩ := T.i_Take
 have Gbw : aO P w K mg base CX0 1 fbw dbw iR (Ga C) := pA T Abw.F
 refine F.oqX zP fun _ _ _ _ H _ Q E hr h => ?_
 ·obtain ⟨l, ws, rfl, hl, hw, q, qn⟩ := h
  have hr2 : bh 2 _ := hr.mono Z0
  have hr3 : bh 3 _ := hr.mono Z0
  have hr4 : bh 4 _ := hr.mono Z0
  have hr6 : bh 6 _ := hr
  refine ⟨_, QSs.h (au (bz (i := 1) zP.nd rfl (Or.inl rfl) (aX aP (pv 0) aq))
   (au (bc (PW.pt (b8 (aG bw (pv 1) aA (aH _)) (bZ (bF (aU Aaz Gaz hr2 (aj (pv 0) ak)))))) (az (aD (v7 M_Let Aby.b Gby hr2 T.c_Let (aj (aX aP (pv 0) aq) (aj (f9 Aas Gas hr6 bV (aj (pv 0) (aj aq ak))) ak))))) aL)
   (au (bc (PW.pt (b8 (aG bw (pv 1) aA (aH _)) (bZ (bF (aU Aaz Gaz hr2 (aj (pv 0) ak)))))) (az (aD (aU Abe Gbe hr3 (aj (aX aP (pv 0) aq) (aj (f9 Aas Gas hr6 bV (aj (pv 0) (aj aq ak))) ak))))) aL)
   (au (bc (PW.pt (b8 (aG bw (pv 1) aA (aH _)) (bZ (bF (aU Aav Gav hr4 (aj (pv 0) ak)))))) (az (aD (v7 M_Draw Abv.b Gbv hr2 T.c_Draw (aj (aX aP (pv 0) aq) (aj (aX aP (pv 0) aq) ak))))) aL)
   (au (bc (PW.pt (b8 (aG bw (pv 1) aA (aH _)) (bZ (bF (aU Aav Gav hr4 (aj (pv 0) ak)))))) (az (aD (v7 M_Late Abx.b Gbx hr2 T.c_Late (aj (aX aP (pv 0) aq) (aj (aX aP (pv 0) aq) ak))))) aL)
   (au (bc (PW.pt (b8 (aG bw (pv 1) aA (aH _)) (bZ (bF (aU Aa9 Ga9 hr4 (aj (pv 0) ak)))))) (az (aD (v7 M_Take Abw.b Gbw hr2 T.c_Take (aj (aX aP (pv 0) aq) (aj (aX aP (pv 0) aq) (aj (aX aP (pv 0) aq) ak)))))) aL)
   (au (bc (aG bw (pv 1) aA (aH _)) (az (aD (v7 M_Need Abu.b Gbu hr2 T.c_Need (aj (f9 Aas Gas hr6 bV (aj (pv 0) (aj aq ak))) ak)))) aL)
   (az (aD dM))))))))), ?_⟩
  have h0 : 0 < ws.length := length_pos_iff.mpr hw.ne
  refine ⟨_, rfl, l, _, _, _, rfl, rfl, SqL.of hl, aZ (i := 0) h0, ?_⟩
  have sf : ∀ {x y : Str}, wAt ws 0 = x -> x ≠ y -> decide (V.str (wAt ws 0) = V.str y) = false := fun {x y} e n => decide_eq_false fun z => n (e.symm.trans (V.str.inj z))
  have so : ∀ {y : Str}, wAt ws 0 ≠ y -> decide (V.str (wAt ws 0) = V.str y) = false := fun {y} n => decide_eq_false fun z => n (V.str.inj z)
  by_cases e0 : wAt ws 0 = "let"
  ·refine ⟨_, rfl, rfl, _, rfl, bu (decide_eq_true (congrArg V.str e0)) ⟨_, rfl, l, ws, rfl, hl, hw, fun H1 s1 => ⟨_, rfl, ?_⟩⟩⟩
   have hl1 := s1 _ _ hl
   cases e1 : neB ws with
   | false =>
    have nr : ¬ RdR ws := fun r => by rcases bR r with ⟨k, z⟩ | ⟨k, z⟩ | ⟨k, z⟩ | ⟨k, z⟩ | ⟨k, z⟩ | ⟨k, z⟩ <;> first | exact absurd (e0.symm.trans k) Z4 | (rw [e1] at z; first | cases z.1 | cases z)
    refine aM rfl ?_
    refine ⟨_, rfl, rfl, _, rfl, aM (sf e0 Z4) (bA ?_)⟩
    refine ⟨_, rfl, rfl, _, rfl, aM (sf e0 Z4) (bA ?_)⟩
    refine ⟨_, rfl, rfl, _, rfl, aM (sf e0 Z4) (bA ?_)⟩
    refine ⟨_, rfl, rfl, _, rfl, aM (sf e0 Z4) (bA ?_)⟩
    refine ⟨_, rfl, rfl, _, rfl, aM (sf e0 Z4) ?_⟩
    exact (qn nr).1 H1 s1
   | true =>
    refine bu rfl ?_
    obtain ⟨h3, hn, ew⟩ := nM e1
    rw [e0] at ew
    refine ⟨_, rfl, l, _, _, _, rfl, rfl, SqL.of hl1, aZ (i := 1) Z1, _, rfl, l, 3, ws, rfl, hl1, hw, fun ts g et d H2 hd2 s2 htd => fun x dx hx hdx hne => ⟨x, dx, ⟨0, wAt ws 1, a1, a1, ts⟩, d, rfl, rfl, ao, htd.same (d8 hx hdx), le_trans g.hi Z0, fun l' H' hl' sb ra => ⟨rfl, q _ (Fz hn g) (by rw [et] at ew; exact ew) x l' H' (s1.trans (s2.trans (fun b o e => sb b o (d8 hx hdx b o e) (aQ e hx)))) ((s1.trans s2).free hx) ((s1.trans s2).free ((d8 hx hdx).free hl')) ra⟩⟩, fun nr => ((qn fun r => ?_).2).on s1⟩
    rcases bR r with ⟨k, _, z⟩ | ⟨k, _⟩ | ⟨k, _⟩ | ⟨k, _⟩ | ⟨k, _⟩ | ⟨k, _⟩ <;> first | exact nr z | exact absurd (e0.symm.trans k) Z4
  have n0 := e0
  clear e0
  by_cases e0 : wAt ws 0 = "deed"
  ·refine ⟨_, rfl, rfl, _, rfl, aM (sf e0 Z4) (bA ?_)⟩
   refine ⟨_, rfl, rfl, _, rfl, bu (decide_eq_true (congrArg V.str e0)) ⟨_, rfl, l, ws, rfl, hl, hw, fun H1 s1 => ⟨_, rfl, ?_⟩⟩⟩
   have hl1 := s1 _ _ hl
   cases e1 : neB ws with
   | false =>
    have nr : ¬ RdR ws := fun r => by rcases bR r with ⟨k, z⟩ | ⟨k, z⟩ | ⟨k, z⟩ | ⟨k, z⟩ | ⟨k, z⟩ | ⟨k, z⟩ <;> first | exact absurd (e0.symm.trans k) Z4 | (rw [e1] at z; first | cases z.1 | cases z)
    refine aM rfl ?_
    refine ⟨_, rfl, rfl, _, rfl, aM (sf e0 Z4) (bA ?_)⟩
    refine ⟨_, rfl, rfl, _, rfl, aM (sf e0 Z4) (bA ?_)⟩
    refine ⟨_, rfl, rfl, _, rfl, aM (sf e0 Z4) (bA ?_)⟩
    refine ⟨_, rfl, rfl, _, rfl, aM (sf e0 Z4) ?_⟩
    exact (qn nr).1 H1 s1
   | true =>
    refine bu rfl ?_
    obtain ⟨h3, hn, ew⟩ := nM e1
    rw [e0] at ew
    refine ⟨_, rfl, l, _, _, _, rfl, rfl, SqL.of hl1, aZ (i := 1) Z1, _, rfl, l, 3, ws, rfl, hl1, hw, fun ts g et d H2 hd2 s2 htd => ⟨wAt ws 1, d, ts, rfl, g, htd, fun ec a l' H' s3 ha hl' ra => ?_, fun ec H' s3 => (qn fun r => ?_).1 H' (s1.trans (s2.trans s3))⟩, fun nr => ((qn fun r => ?_).2).on s1⟩
    ·exact q _ (CG hn g fun t ht => by simpa using any_eq_false.mp ec t ht) (by rw [et] at ew; exact ew) a l' H' (s1.trans (s2.trans s3)) ((s1.trans s2).free ha) ((s1.trans s2).free hl') ra
    ·rcases bR r with ⟨k, _⟩ | ⟨k, _, us, gu, eu, hc⟩ | ⟨k, _⟩ | ⟨k, _⟩ | ⟨k, _⟩ | ⟨k, _⟩ <;> first | exact absurd (e0.symm.trans k) Z4 | skip
     have : us = ts := eQ gu g (eu.symm.trans et)
     subst this
     rw [any_eq_false.mpr fun t ht => by rw [hc t ht]; decide] at ec
     cases ec
    ·rcases bR r with ⟨k, _⟩ | ⟨k, _, us, gu, eu, _⟩ | ⟨k, _⟩ | ⟨k, _⟩ | ⟨k, _⟩ | ⟨k, _⟩ <;> first | exact absurd (e0.symm.trans k) Z4 | exact nr ⟨us, gu, eu⟩
  have n1 := e0
  clear e0
  by_cases e0 : wAt ws 0 = "draw"
  ·refine ⟨_, rfl, rfl, _, rfl, aM (sf e0 Z4) (bA ?_)⟩
   refine ⟨_, rfl, rfl, _, rfl, aM (sf e0 Z4) (bA ?_)⟩
   refine ⟨_, rfl, rfl, _, rfl, bu (decide_eq_true (congrArg V.str e0)) ⟨_, rfl, l, ws, rfl, hl, hw, fun H1 s1 => ⟨_, rfl, ?_⟩⟩⟩
   have hl1 := s1 _ _ hl
   cases e1 : naB ws with
   | false =>
    have nr : ¬ RdR ws := fun r => by rcases bR r with ⟨k, z⟩ | ⟨k, z⟩ | ⟨k, z⟩ | ⟨k, z⟩ | ⟨k, z⟩ | ⟨k, z⟩ <;> first | exact absurd (e0.symm.trans k) Z4 | (rw [e1] at z; first | cases z.1 | cases z)
    refine aM rfl ?_
    refine ⟨_, rfl, rfl, _, rfl, aM (sf e0 Z4) (bA ?_)⟩
    refine ⟨_, rfl, rfl, _, rfl, aM (sf e0 Z4) (bA ?_)⟩
    refine ⟨_, rfl, rfl, _, rfl, aM (sf e0 Z4) ?_⟩
    exact (qn nr).1 H1 s1
   | true =>
    refine bu rfl ?_
    obtain ⟨h4, ys, ga, ey, hn, ew⟩ := uQ e1
    rw [e0] at ew
    exact ⟨_, rfl, l, _, _, _, rfl, rfl, SqL.of hl1, (aZ (i := 1) Z1).trans (congrArg (fun z => some (V.str z)) ey), _, rfl, l, _, _, _, rfl, rfl, SqL.of hl1, aZ (i := 3) Z1, fun x dx hx hdx hne => ⟨x, dx, ⟨2, wAt ws 3, dotted ys, a1, t1⟩, rfl, rfl, ao, fun H' sb ra => ⟨rfl, q _ (tE (so := 2) Z0 hn ga) ew x x H' (s1.trans (fun b o e => sb b o (d8 hx hdx b o e) (aQ e hx))) (s1.free hx) (s1.free hx) (ra x)⟩⟩⟩
  have n2 := e0
  clear e0
  by_cases e0 : wAt ws 0 = "late"
  ·refine ⟨_, rfl, rfl, _, rfl, aM (sf e0 Z4) (bA ?_)⟩
   refine ⟨_, rfl, rfl, _, rfl, aM (sf e0 Z4) (bA ?_)⟩
   refine ⟨_, rfl, rfl, _, rfl, aM (sf e0 Z4) (bA ?_)⟩
   refine ⟨_, rfl, rfl, _, rfl, bu (decide_eq_true (congrArg V.str e0)) ⟨_, rfl, l, ws, rfl, hl, hw, fun H1 s1 => ⟨_, rfl, ?_⟩⟩⟩
   have hl1 := s1 _ _ hl
   cases e1 : naB ws with
   | false =>
    have nr : ¬ RdR ws := fun r => by rcases bR r with ⟨k, z⟩ | ⟨k, z⟩ | ⟨k, z⟩ | ⟨k, z⟩ | ⟨k, z⟩ | ⟨k, z⟩ <;> first | exact absurd (e0.symm.trans k) Z4 | (rw [e1] at z; first | cases z.1 | cases z)
    refine aM rfl ?_
    refine ⟨_, rfl, rfl, _, rfl, aM (sf e0 Z4) (bA ?_)⟩
    refine ⟨_, rfl, rfl, _, rfl, aM (sf e0 Z4) ?_⟩
    exact (qn nr).1 H1 s1
   | true =>
    refine bu rfl ?_
    obtain ⟨h4, ys, ga, ey, hn, ew⟩ := uQ e1
    rw [e0] at ew
    exact ⟨_, rfl, l, _, _, _, rfl, rfl, SqL.of hl1, (aZ (i := 1) Z1).trans (congrArg (fun z => some (V.str z)) ey), _, rfl, l, _, _, _, rfl, rfl, SqL.of hl1, aZ (i := 3) Z1, fun x dx hx hdx hne => ⟨x, dx, ⟨3, wAt ws 3, dotted ys, a1, t1⟩, rfl, rfl, ao, fun H' sb ra => ⟨rfl, q _ (tE (so := 3) Z0 hn ga) ew x x H' (s1.trans (fun b o e => sb b o (d8 hx hdx b o e) (aQ e hx))) (s1.free hx) (s1.free hx) (ra x)⟩⟩⟩
  have n3 := e0
  clear e0
  by_cases e0 : wAt ws 0 = "take"
  ·refine ⟨_, rfl, rfl, _, rfl, aM (sf e0 Z4) (bA ?_)⟩
   refine ⟨_, rfl, rfl, _, rfl, aM (sf e0 Z4) (bA ?_)⟩
   refine ⟨_, rfl, rfl, _, rfl, aM (sf e0 Z4) (bA ?_)⟩
   refine ⟨_, rfl, rfl, _, rfl, aM (sf e0 Z4) (bA ?_)⟩
   refine ⟨_, rfl, rfl, _, rfl, bu (decide_eq_true (congrArg V.str e0)) ⟨_, rfl, l, ws, rfl, hl, hw, fun H1 s1 => ⟨_, rfl, ?_⟩⟩⟩
   have hl1 := s1 _ _ hl
   cases e1 : nwB ws with
   | false =>
    have nr : ¬ RdR ws := fun r => by rcases bR r with ⟨k, z⟩ | ⟨k, z⟩ | ⟨k, z⟩ | ⟨k, z⟩ | ⟨k, z⟩ | ⟨k, z⟩ <;> first | exact absurd (e0.symm.trans k) Z4 | (rw [e1] at z; first | cases z.1 | cases z)
    refine aM rfl ?_
    refine ⟨_, rfl, rfl, _, rfl, aM (sf e0 Z4) ?_⟩
    exact (qn nr).1 H1 s1
   | true =>
    refine bu rfl ?_
    obtain ⟨h6, ys, ga, ey, hn1, hn5, ew⟩ := Af e1
    rw [e0] at ew
    exact ⟨_, rfl, l, _, _, _, rfl, rfl, SqL.of hl1, aZ (i := 1) Z1, _, rfl, l, _, _, _, rfl, rfl, SqL.of hl1, (aZ (i := 3) Z1).trans (congrArg (fun z => some (V.str z)) ey), _, rfl, l, _, _, _, rfl, rfl, SqL.of hl1, aZ (i := 5) Z1, fun x dx hx hdx hne => ⟨x, dx, ⟨4, wAt ws 5, dotted ys, wAt ws 1, t1⟩, rfl, rfl, ao, fun H' sb ra => ⟨rfl, q _ (Cp hn5 hn1 ga) ew x x H' (s1.trans (fun b o e => sb b o (d8 hx hdx b o e) (aQ e hx))) (s1.free hx) (s1.free hx) (ra x)⟩⟩⟩
  have n4 := e0
  clear e0
  by_cases e0 : wAt ws 0 = "need"
  ·refine ⟨_, rfl, rfl, _, rfl, aM (sf e0 Z4) (bA ?_)⟩
   refine ⟨_, rfl, rfl, _, rfl, aM (sf e0 Z4) (bA ?_)⟩
   refine ⟨_, rfl, rfl, _, rfl, aM (sf e0 Z4) (bA ?_)⟩
   refine ⟨_, rfl, rfl, _, rfl, aM (sf e0 Z4) (bA ?_)⟩
   refine ⟨_, rfl, rfl, _, rfl, aM (sf e0 Z4) (bA ?_)⟩
   refine ⟨_, rfl, rfl, _, rfl, bu (decide_eq_true (congrArg V.str e0)) ?_⟩
   have ew : ws = ("need" : Str) :: ws.drop 1 := by rw [<- e0]; cases ws with | nil => exact absurd rfl hw.ne | cons a r => rfl
   refine ⟨_, rfl, l, 1, ws, rfl, hl, hw, fun ts g et d H2 hd2 s2 htd => fun x dx hx hdx hne => ⟨x, dx, ⟨5, "", a1, a1, ts⟩, d, rfl, rfl, ao, htd.same (d8 hx hdx), le_trans g.hi Z0, fun l' H' hl' sb ra => ⟨rfl, q _ (BV g) (by rw [et] at ew; exact ew) x l' H' (s2.trans (fun b o e => sb b o (d8 hx hdx b o e) (aQ e hx))) (s2.free hx) (s2.free ((d8 hx hdx).free hl')) ra⟩⟩, fun nr => (qn fun r => ?_).2⟩
   rcases bR r with ⟨k, _⟩ | ⟨k, _⟩ | ⟨k, _⟩ | ⟨k, _⟩ | ⟨k, _⟩ | ⟨k, z⟩ <;> first | exact absurd (e0.symm.trans k) Z4 | exact nr z
  have n5 := e0
  clear e0
  refine ⟨_, rfl, rfl, _, rfl, aM (so n0) (bA ?_)⟩
  refine ⟨_, rfl, rfl, _, rfl, aM (so n1) (bA ?_)⟩
  refine ⟨_, rfl, rfl, _, rfl, aM (so n2) (bA ?_)⟩
  refine ⟨_, rfl, rfl, _, rfl, aM (so n3) (bA ?_)⟩
  refine ⟨_, rfl, rfl, _, rfl, aM (so n4) (bA ?_)⟩
  refine ⟨_, rfl, rfl, _, rfl, aM (so n5) ?_⟩
  refine (qn fun r => ?_).1 H (aB.refl H)
  rcases bR r with ⟨k, _⟩ | ⟨k, _⟩ | ⟨k, _⟩ | ⟨k, _⟩ | ⟨k, _⟩ | ⟨k, _⟩ <;> contradiction
theorem El (T : Tx K mg C) (F : Fun K "row_at" "row_at" pJ f fd) : aO P w K mg base (CX1 P w) 8 f fd pY (Kh C) := by
 obtain ⟨fbb, dbb, Abb⟩ := T.abb
 have Gbb : aO P w K mg base (CX1 P w) 7 fbb dbb qI (Kd C) := Fl T Abb.F
 obtain ⟨fai, dai, Aai⟩ := T.i_NoText
 have Gai : aO P w K mg base CX0 1 fai dai du (tY (C 22)) := rW T Aai.F
 have GH_i_NoText : qC P w K mg base 1 fai dai du (tY (C 22)) := yt T Aai.F
 refine F.oqX zF fun _ _ _ _ H _ Q E hr h => ?_
 ·obtain ⟨z, i, rfl, hz, hi, q, qx⟩ := h
  have hr2 : bh 2 _ := hr.mono Z0
  have hr7 : bh 7 _ := hr
  refine ⟨_, QSs.h (au (Jb (fun x => PassesOwnAt.leaving) bV T.x_NoExpr T.c_NoExpr rfl rfl (fun pins E W hw => (az (bz (i := 2) zF.nd rfl (Or.inl rfl) (f9 Abb Gbb hr7 hw (aj (Lg (K := K) rfl plainAttrs_str slot_str_split type_str_split gW (pv 0) (aj aA ak)) ak))))) aL (fun x pins hw => (az (Aj (K' := K) rfl hw rfl (Le Aai GH_i_NoText hr2 T.c_NoText T.x_NoText (aj (pv 1) ak))))))
   (au (bc (aG yE (pv 2) dM (aH _)) (az (jq bV rfl (Ku Aai Gai hr2 T.c_NoText T.x_NoText (aj (pv 1) ak)))) aL)
   (az (aD (pv 2))))), ?_⟩
  refine ⟨_, rfl, rfl, _, _, rfl, rfl, ou, le_trans (show z.length + 2 <= 6002 by omega) Z0, fun p hp => ?_⟩
  refine ⟨p, Txt.split z (" " : Str), rfl, ao, ⟨z, hz, rfl⟩, fun r g e a l H' s' ha hl ra => ?_, fun nr => ⟨fun H' s' => ?_, fun x H' s' hx ex => ?_⟩⟩
  ·refine ⟨_, rfl, rfl, _, rfl, aM (decide_eq_false Z7) ?_⟩
   exact ⟨_, rfl, q r g e a l H' ((aB.new hp).trans s') ((aB.new hp).free ha) ((aB.new hp).free hl) ra⟩
  ·refine ⟨_, rfl, rfl, _, rfl, bu (decide_eq_true rfl) ?_⟩
   exact ⟨_, rfl, fun x hx => ⟨x, i, rfl, ao, hi, fun p2 hp2 hne => ⟨rfl, x, C 22, some p2, rfl, ao, T.x_NoText, (qx nr).go ((aB.new hp).trans s') hx hp2 hne⟩⟩⟩
  ·refine ⟨x, C 21, none, rfl, ex, T.xf.s21, ?_⟩
   refine ⟨_, rfl, fun x2 hx2 => ⟨x2, i, rfl, ao, hi, fun p2 hp2 hne => ⟨rfl, x2, C 22, p2, C 21, false, rfl, ao, T.x_NoText, aQ ex hx2, ?_, (qx nr).go ((aB.new hp).trans s') hx2 hp2 hne⟩⟩⟩
   have n1 : x ≠ x2 := aQ ex hx2
   have n2 : x ≠ p2 := aQ ex (by rw [aR hne] at hp2; exact hp2)
   rw [aR n1, aR n2, aR n1]
   exact ex
theorem rQ (T : Tx K mg C) (F : Fun K "read_row" "read_row" mW f fd) : aO P w K mg base (CX1 P w) 9 f fd jg (FJ K C) := by
 obtain ⟨fbf, dbf, Abf⟩ := T.abf
 have Gbf : aO P w K mg base (CX1 P w) 8 fbf dbf pY (Kh C) := El T Abf.F
 obtain ⟨fai, dai, Aai⟩ := T.i_NoText
 have Gai : aO P w K mg base CX0 1 fai dai du (tY (C 22)) := rW T Aai.F
 refine F.oqX BJ fun _ _ _ _ H _ Q E hr h => ?_
 ·obtain ⟨v, rfl, h⟩ := h
  have hr2 : bh 2 _ := hr.mono Z0
  have hr8 : bh 8 _ := hr
  refine ⟨_, QSs.h (au (bc (cH (bF (aF bN Z3 T.inst boot_isinstance (aj (pv 0) (aj (cz (v := .ty "str") Z3 T.t_str boot_str rfl) ak))))) (az (jq bV rfl (Ku Aai Gai hr2 T.c_NoText T.x_NoText (aj aq ak)))) aL)
   (az (aD (f9 Abf Gbf hr8 bV (aj (pv 0) (aj aq ak)))))), ?_⟩
  rcases h with ⟨z, rfl, hz, q, qx⟩ | ⟨⟨t, ty, kt⟩, qx⟩
  ·exact ⟨_, rfl, _, _, _, _, rfl, .str _, bW, _, rfl, bA ⟨_, rfl, z, 0, rfl, hz, Z0, q, qx⟩⟩
  ·exact ⟨_, rfl, _, _, _, _, rfl, ty, kt, _, rfl, jo (fun x hx => ⟨x, 0, rfl, ao, Z0, fun p2 hp2 hne => ⟨rfl, x, C 22, some p2, rfl, ao, T.x_NoText, qx.go (aB.refl H) hx hp2 hne⟩⟩)⟩
theorem fW {C : Addr} {m : Str} {f : Addr} {fd : FuncData} {q : Str} {st : Stmt} {ps : List Str} {k : Nat} {sp sp' : Sp} (A : MAt K m q st ps f fd) (M : Meth K C m f) (G : aO P w K mg base CX0 k f fd ps sp) (hk : k <= 3) (h : ∀ vs H Q E, sp' vs H Q E -> sp vs H Q E) : VM P w K mg base 3 C m sp' :=
 ⟨f, fd, ps, M, (G.mono hk).imp h, A.b⟩
theorem rdB {C : Nat -> Addr} (T : Tx K mg C) {H : Hp} {a l : Addr} {r : cL} {Q : VK} (ra : gY C H a l r) (g : GoodR r) (q : Pur (.str r.nm) H Q) : MV P w K mg base 3 "binds" (.ref a) H Q := by
 obtain ⟨so, nn, aa, ww, tt⟩ := r
 have h5 : so <= 5 := g.so
 obtain ⟨dx, fs, ha, hf⟩ := id ra
 rcases six h5 with rfl | rfl | rfl | rfl | rfl | rfl
 ·obtain ⟨f, fd, A, M⟩ := T.m_Let_binds
  exact ⟨a, C 0, dx, fs, spB C 0, rfl, ha, hf.nb, (T.fam.c 0 Z0).cl, fW A M (t8 T A.F) Z0 (fun _ _ _ _ h => h), a, l, _, rfl, rfl, ra, q⟩
 ·obtain ⟨f, fd, A, M⟩ := T.m_Deed_binds
  exact ⟨a, C 1, dx, fs, spB C 1, rfl, ha, hf.nb, (T.fam.c 1 Z0).cl, fW A M (sO T A.F) Z0 (fun _ _ _ _ h => h), a, l, _, rfl, rfl, ra, q⟩
 ·obtain ⟨f, fd, A, M⟩ := T.m_Draw_binds
  exact ⟨a, C 2, dx, fs, spB C 2, rfl, ha, hf.nb, (T.fam.c 2 Z0).cl, fW A M (sU T A.F) Z0 (fun _ _ _ _ h => h), a, l, _, rfl, rfl, ra, q⟩
 ·obtain ⟨f, fd, A, M⟩ := T.m_Late_binds
  exact ⟨a, C 3, dx, fs, spB C 3, rfl, ha, hf.nb, (T.fam.c 3 Z0).cl, fW A M (sy T A.F) Z0 (fun _ _ _ _ h => h), a, l, _, rfl, rfl, ra, q⟩
 ·obtain ⟨f, fd, A, M⟩ := T.m_Take_binds
  exact ⟨a, C 4, dx, fs, spB C 4, rfl, ha, hf.nb, (T.fam.c 4 Z0).cl, fW A M (sI T A.F) Z0 (fun _ _ _ _ h => h), a, l, _, rfl, rfl, ra, q⟩
 ·obtain ⟨f, fd, A, M⟩ := T.m_Row_binds
  exact ⟨a, C 5, dx, fs, Hv, rfl, ha, hf.nb, (T.fam.c 5 Z0).cl, fW A M.1 (uE T A.F) Z0 (fun _ _ _ _ h => h), .ref a, rfl, by have e : nn = "" := g.no rfl; rw [<- e]; exact q⟩
theorem rdA {C : Nat -> Addr} (T : Tx K mg C) {H : Hp} {a l : Addr} {r : cL} {Q : VK} (ra : gY C H a l r) (g : GoodR r) (q : ∀ b H', H b = none -> aB H H' -> H' b = some (.lst ((iw r).map V.str)) -> Q (.ref b) H') : MV P w K mg base 3 "asked" (.ref a) H Q := by
 obtain ⟨so, nn, aa, ww, tt⟩ := r
 have h5 : so <= 5 := g.so
 obtain ⟨dx, fs, ha, hf⟩ := id ra
 rcases six h5 with rfl | rfl | rfl | rfl | rfl | rfl
 ·obtain ⟨f, fd, A, M⟩ := T.m_Row_asked
  exact ⟨a, C 0, dx, fs, yN, rfl, ha, hf.na, (T.fam.c 0 Z0).cl, fW A M.1 (jn T A.F) Z0 (fun _ _ _ _ h => h), .ref a, rfl, fun b H' h1 h2 h3 => q b H' h1 h2 h3⟩
 ·obtain ⟨f, fd, A, M⟩ := T.m_Row_asked
  exact ⟨a, C 1, dx, fs, yN, rfl, ha, hf.na, (T.fam.c 1 Z0).cl, fW A M.2.1 (jn T A.F) Z0 (fun _ _ _ _ h => h), .ref a, rfl, fun b H' h1 h2 h3 => q b H' h1 h2 h3⟩
 ·obtain ⟨f, fd, A, M⟩ := T.m_Draw_asked
  exact ⟨a, C 2, dx, fs, spA C 2, rfl, ha, hf.na, (T.fam.c 2 Z0).cl, fW A M (sH T A.F) Z0 (fun _ _ _ _ h => h), a, l, _, rfl, rfl, ra, fun b H' h1 h2 h3 => q b H' h1 h2 h3⟩
 ·obtain ⟨f, fd, A, M⟩ := T.m_Late_asked
  exact ⟨a, C 3, dx, fs, spA C 3, rfl, ha, hf.na, (T.fam.c 3 Z0).cl, fW A M (sr T A.F) Z0 (fun _ _ _ _ h => h), a, l, _, rfl, rfl, ra, fun b H' h1 h2 h3 => q b H' h1 h2 h3⟩
 ·obtain ⟨f, fd, A, M⟩ := T.m_Take_asked
  exact ⟨a, C 4, dx, fs, spA C 4, rfl, ha, hf.na, (T.fam.c 4 Z0).cl, fW A M (su T A.F) Z0 (fun _ _ _ _ h => h), a, l, _, rfl, rfl, ra, fun b H' h1 h2 h3 => q b H' h1 h2 h3⟩
 ·obtain ⟨f, fd, A, M⟩ := T.m_Row_asked
  exact ⟨a, C 5, dx, fs, yN, rfl, ha, hf.na, (T.fam.c 5 Z0).cl, fW A M.2.2.1 (jn T A.F) Z0 (fun _ _ _ _ h => h), .ref a, rfl, fun b H' h1 h2 h3 => q b H' h1 h2 h3⟩
theorem rdS {C : Nat -> Addr} (T : Tx K mg C) {H : Hp} {a l : Addr} {r : cL} {Q : VK} (ra : gY C H a l r) (g : GoodR r) (q : Pur (.str (cG r)) H Q) : MV P w K mg base 3 "said" (.ref a) H Q := by
 obtain ⟨so, nn, aa, ww, tt⟩ := r
 have h5 : so <= 5 := g.so
 obtain ⟨dx, fs, ha, hf⟩ := id ra
 rcases six h5 with rfl | rfl | rfl | rfl | rfl | rfl
 ·obtain ⟨f, fd, A, M⟩ := T.m_Let_said
  exact ⟨a, C 0, dx, fs, spS C 0, rfl, ha, hf.ns, (T.fam.c 0 Z0).cl, fW A M (vz T A.F) Z0 (fun _ _ _ _ h => h), a, l, _, rfl, rfl, ra, g, q⟩
 ·obtain ⟨f, fd, A, M⟩ := T.m_Deed_said
  exact ⟨a, C 1, dx, fs, spS C 1, rfl, ha, hf.ns, (T.fam.c 1 Z0).cl, fW A M (uF T A.F) Z0 (fun _ _ _ _ h => h), a, l, _, rfl, rfl, ra, g, q⟩
 ·obtain ⟨f, fd, A, M⟩ := T.m_Draw_said
  exact ⟨a, C 2, dx, fs, spS C 2, rfl, ha, hf.ns, (T.fam.c 2 Z0).cl, fW A M (uZ T A.F) Z0 (fun _ _ _ _ h => h), a, l, _, rfl, rfl, ra, g, q⟩
 ·obtain ⟨f, fd, A, M⟩ := T.m_Late_said
  exact ⟨a, C 3, dx, fs, spS C 3, rfl, ha, hf.ns, (T.fam.c 3 Z0).cl, fW A M (vp T A.F) Z0 (fun _ _ _ _ h => h), a, l, _, rfl, rfl, ra, g, q⟩
 ·obtain ⟨f, fd, A, M⟩ := T.m_Take_said
  exact ⟨a, C 4, dx, fs, spS C 4, rfl, ha, hf.ns, (T.fam.c 4 Z0).cl, fW A M (uW T A.F) Z0 (fun _ _ _ _ h => h), a, l, _, rfl, rfl, ra, g, q⟩
 ·obtain ⟨f, fd, A, M⟩ := T.m_Need_said
  exact ⟨a, C 5, dx, fs, spS C 5, rfl, ha, hf.ns, (T.fam.c 5 Z0).cl, fW A M (uT T A.F) Z0 (fun _ _ _ _ h => h), a, l, _, rfl, rfl, ra, g, q⟩
theorem iW (T : Tx K mg C) (F : Fun K "_law_label" "_law_label" ju f fd) : aO P w K mg base CX0 3 f fd lO pQ := by
 obtain ⟨faa, daa, Aaa⟩ := T.aaa
 obtain ⟨fbl, dbl, Abl⟩ := T.abl
 have Gbl : aO P w K mg base CX0 2 fbl dbl wX Gz := Jr Abl.F Aaa T.range
 have Gaa : aO P w K mg base CX0 1 faa daa gh jW := iH Aaa.F
 refine F.oq Cr fun _ _ _ _ H _ Q E hr h => ?_
 ·obtain ⟨c, rfl, q⟩ := h
  have hr1 : bh 1 _ := hr.mono Z0
  have hr2 : bh 2 _ := hr
  refine ⟨_, QSs.h (au (bz (i := 1) Cr.nd rfl (Or.inl rfl) (xO (aV aA (aV aA (aV aA (aV aA (aV aA (aV aA (aV aA (aV aA (aV aA (aV aA qN))))))))))))
   (au (bc (aG bw (aU Aaa Gaa hr1 (aj (pv 0) (aj aq (aj aq ak)))) aq (aH _)) (az (aD (aX aP (pv 1) (aU Aaa Gaa hr1 (aj (pv 0) (aj aq (aj aq ak))))))) aL)
   (az (aD (aU Abl Gbl hr2 (aj (pv 0) ak)))))), ?_⟩
  refine ⟨by show 10 <= sizeLine; decide, fun p hp => ?_⟩
  refine ⟨_, rfl, c, 28, 5, rfl, Z0, Z0, Z0, fun H1 s1 => ⟨rfl, _, rfl, fX (fun _ => ?_) (fun _ => ?_)⟩⟩
  ·obtain ⟨v, hat, hm⟩ := xJ (xs := [V.str "let", V.str "deed", V.str "be", V.str "draw", V.str "late", V.str "as", V.str "take", V.str "from", V.str "need", V.str "part"]) (c := c) (k := 29) (Nat.succ_pos _)
   obtain ⟨z, rfl, hz⟩ := GJ hm
   exact ⟨_, rfl, _, rfl, c, 29, 10, rfl, Z0, Z0, Z0, fun H2 s2 => ⟨p, _, _, _, rfl, rfl, SqL.of (s2 _ _ (s1 _ _ ao)), hat, q z hz H2 ((aB.new hp).trans (s1.trans s2))⟩⟩
  ·exact ⟨_, rfl, c, rfl, fun H2 s2 => q (name c) (Ep c) H2 ((aB.new hp).trans (s1.trans s2))⟩
theorem tX (T : Tx K mg C) (F : Fun K "_law_address" "_law_address" gJ f fd) : aO P w K mg base CX0 4 f fd oJ Hz := by
 obtain ⟨fae, dae, Aae⟩ := T.aae
 have Gae : aO P w K mg base CX0 3 fae dae lO pQ := iW T Aae.F
 obtain ⟨fab, dab, Aab⟩ := T.aab
 have Gab : aO P w K mg base CX0 1 fab dab rZ v9 := uN Aab.F
 obtain ⟨faa, daa, Aaa⟩ := T.aaa
 have Gaa : aO P w K mg base CX0 1 faa daa gh jW := iH Aaa.F
 refine F.oq Eh fun _ _ _ _ H _ Q E hr h => ?_
 ·obtain ⟨c, rfl, q⟩ := h
  have hr1 : bh 1 _ := hr.mono Z0
  have hr3 : bh 3 _ := hr
  refine ⟨_, QSs.h (az (aD (dU plainAttrs_str slot_str_join type_str_join m6 aA (aj (dX (N := ["_law_j", "_law_cell_here"]) [none, some 0] rfl Z5 (lA Z3 T.range (aj (aJ cA aq (aU Aaa Gaa hr1 (aj (pv 0) (aj aq (aj aq ak))))) ak)) (fun cl C fp s H => (bj (i := 0) (by decide +kernel : (["_law_j", "_law_cell_here"] : List Str).Nodup) rfl (Or.inl rfl))) (fun cl C fp s H => fL) (fun cl C fp s H => (aU Aae Gae hr3 (aj (aU Aab Gab hr1 (aj (pv 1) (aj (pv 0) ak))) ak)))) ak)))), ?_⟩
  have m1 := cP c 27 (m := 3) Z0
  have m2 := cN c 27 (m := 3) Z0
  refine ⟨rfl, ?_⟩
  refine ⟨_, rfl, c, 27, 3, rfl, Z0, Z0, Z0, fun H1 s1 => ?_⟩
  refine ⟨_, _, rfl, rfl, _, rfl, Z1, Z1, ?_⟩
  refine nR (fun i v H' => ∃ z, v = V.str z /\ dq z) (fun i v H' H'' h _ => h) (le_trans (show (1 + pick c 27 3).toNat <= 8 by omega) Z0) (fun i H' Q' hi sm k' => ?_) (fun xs H2 s2 hl hx p hp => ?_)
  ·have hi' : i < (1 + pick c 27 3).toNat := hi
   exact ⟨_, rfl, _, rfl, c, 0 + (i : Int), rfl, Z1, Z1, fun H3 s3 => ⟨_, rfl, fun z hz H4 s4 => k' _ H4 (s3.trans s4) ⟨z, rfl, hz⟩⟩⟩
  ·obtain ⟨ys, hyl, rfl, hyn⟩ := zc hx
   have hs : (ys.map (·.length)).sum <= ys.length * 8 := pD fun y hy => (hyn y hy).hi
   refine ⟨_, p, ys, rfl, rfl, .inl (SqL.of ao), by rw [yd]; omega, q ys ⟨fun z => ?_, Z1, hyn⟩ _ ((s1.trans s2).put hp)⟩
   rw [z, map_nil, length_nil] at hl
   omega
theorem zL (T : Tx K mg C) (F : Fun K "_law_term" "_law_term" mZ f fd) : aO P w K mg base CX0 4 f fd yS HY := by
 obtain ⟨faa, daa, Aaa⟩ := T.aaa
 have Gaa : aO P w K mg base CX0 1 faa daa gh jW := iH Aaa.F
 obtain ⟨fae, dae, Aae⟩ := T.aae
 have Gae : aO P w K mg base CX0 3 fae dae lO pQ := iW T Aae.F
 obtain ⟨fab, dab, Aab⟩ := T.aab
 have Gab : aO P w K mg base CX0 1 fab dab rZ v9 := uN Aab.F
 obtain ⟨fa3, da3, Aa3⟩ := T.aa3
 have Ga3 : aO P w K mg base CX0 1 fa3 da3 qG zT := Eb Aa3.F
 refine F.oq ug fun _ _ _ _ H _ Q E hr h => ?_
 ·obtain ⟨c, b, rfl, q⟩ := h
  have hr1 : bh 1 _ := hr.mono Z0
  have hr3 : bh 3 _ := hr
  refine ⟨_, QSs.h (au (bz (i := 2) ug.nd rfl (Or.inl rfl) (aX aP (bC (aj aq (aj (aJ qQ aq (aJ ik aq (aU Aaa Gaa hr1 (aj (pv 0) (aj aq (aj aq ak)))))) ak))) (bL eX Z3 T.t_int boot_int (aj (Bl (pv 1)) ak))))
   (au (bz (i := 3) ug.nd rfl (Or.inl rfl) (aU Aaa Gaa hr1 (aj (pv 0) (aj aq (aj aq ak)))))
   (au (bc (aG bw (pv 3) aq (aH _)) (au (bz (i := 4) ug.nd rfl (Or.inl rfl) (aX aP (bC (aj aq (aj aq (aj (aJ Gp aq aq) (aj (aJ Gp aq aq) ak))))) (aU Aaa Gaa hr1 (aj (pv 0) (aj aq (aj aq ak))))))
   (az (aD (cR (aj (pv 2) (aj aA (aj (aX aP (bC (aj (aU Aa3 Ga3 hr1 (aj (pv 0) (aj (pv 4) ak))) (aj aq (aj (aJ qQ (pv 4) aq) ak)))) (aU Aaa Gaa hr1 (aj (pv 0) (aj aq (aj aq ak))))) ak))))))) aL)
   (au (xu (N := ["_law_j", "_law_cell_here"]) [none, some 0] (i := 5) ug.nd rfl (Or.inl rfl) rfl Z5 (lA Z3 T.range (aj (aJ cA aq (aU Aaa Gaa hr1 (aj (pv 0) (aj aq (aj aq ak))))) ak)) (fun cl C fp s H => (bj (i := 0) (by decide +kernel : (["_law_j", "_law_cell_here"] : List Str).Nodup) rfl (Or.inl rfl))) (fun cl C fp s H => fL) (fun cl C fp s H => (aU Aae Gae hr3 (aj (aU Aab Gab hr1 (aj (pv 1) (aj (pv 0) ak))) ak))))
   (az (aD (cR (aj (pv 2) (aj (aX aP (bC (aj aA (aj aA ak))) (bL eX Z3 T.t_int boot_int (aj (bJ bw (pv 3) aq (aH _)) ak))) (aj (bL jZ Z3 T.t_tuple boot_tuple (aj (pv 5) ak)) ak)))))))))), ?_⟩
  have k1 := cP c 1 (m := 2) Z0
  have k2 := cN c 1 (m := 2) Z0
  refine ⟨_, rfl, c, 1, 2, rfl, Z0, Z0, Z0, fun H1 s1 => ⟨_, _, rfl, rfl, .inl ⟨Z0, Z0⟩, _, _, rfl, rfl, by show 2 <= sizeLine; decide, fun p hp => ?_⟩⟩
  have hat : atI [V.int 1, V.int (1 - 2 * pick c 1 2)] (if (!b) = true then 1 else 0) = some (V.int (if b = true then 1 else 1 - 2 * pick c 1 2)) := by cases b <;> rfl
  refine ⟨_, rfl, _, rfl, .inr ⟨_, rfl, p, _, _, _, rfl, rfl, SqL.of ao, hat, ?_⟩⟩
  have hsg : (if b = true then (1 : Int) else 1 - 2 * pick c 1 2) = 1 \/ (if b = true then (1 : Int) else 1 - 2 * pick c 1 2) = -1 := by split <;> omega
  have hfst : b = true -> (if b = true then (1 : Int) else 1 - 2 * pick c 1 2) = 1 := fun e => if_pos e
  generalize (if b = true then (1 : Int) else 1 - 2 * pick c 1 2) = sg at hsg hfst
  have s2 : aB H (upd H1 p (.lst [V.int 1, V.int (1 - 2 * pick c 1 2)])) := s1.put hp
  generalize upd H1 p (.lst [V.int 1, V.int (1 - 2 * pick c 1 2)]) = H2 at s2
  refine ⟨_, rfl, c, 2, 4, rfl, Z0, Z0, Z0, fun H3 s3 => ?_⟩
  generalize pick c 2 4 = way
  refine ⟨_, rfl, rfl, _, rfl, fX (fun _ => ?_) (fun _ => ?_)⟩
  ·refine ⟨_, _, rfl, rfl, ⟨Z0, Z0, Z0⟩, _, _, rfl, rfl, ⟨Z0, Z0, Z0⟩, by show 4 <= sizeLine; decide, fun p2 hp2 => ?_⟩
   obtain ⟨fv, hfat, hfm⟩ := xJ (xs := [V.int 10, V.int 1000, V.int (10 ^ (10 : Int).toNat), V.int (10 ^ (20 : Int).toNat)]) (c := c) (k := 3) (Nat.succ_pos _)
   have hfar : ∃ far : Int, fv = .int far /\ 0 < far /\ far <= 10 ^ 20 := by
    simp only [mem_cons, not_mem_nil, or_false] at hfm
    rcases hfm with rfl | rfl | rfl | rfl
    ·exact ⟨_, rfl, Z0, Z0⟩
    ·exact ⟨_, rfl, Z0, Z0⟩
    ·exact ⟨_, rfl, Z0, Z0⟩
    ·exact ⟨_, rfl, Z0, Z0⟩
   obtain ⟨far, rfl, f0, f1⟩ := hfar
   refine ⟨_, rfl, c, 3, 4, rfl, Z0, Z0, Z0, fun H4 s4 => ⟨p2, _, _, V.int far, rfl, rfl, SqL.of (s4 _ _ ao), hfat, ?_⟩⟩
   have s24 : aB H H4 := s2.trans (s3.trans ((aB.new hp2).trans s4))
   refine ⟨_, rfl, _, rfl, _, rfl, c, far, rfl, f0, fun H5 s5 => ⟨_, rfl, _, _, rfl, rfl, by show 3 <= sizeLine; decide, fun p3 hp3 => ?_⟩⟩
   have n0 := Dv c f0
   have n1 := Eg c f0
   obtain ⟨nv, hnat, hnm⟩ := xJ (xs := [V.int (number c far), V.int 0, V.int (far - 1)]) (c := c) (k := 4) (Nat.succ_pos _)
   have hnum : ∃ m : Nat, nv = .int ((m : Nat) : Int) /\ m < 10 ^ 20 := by
    have key : ∀ n : Int, 0 <= n -> n < far -> ∃ m : Nat, V.int n = .int ((m : Nat) : Int) /\ m < 10 ^ 20 := fun n h0 h1 => by
     obtain ⟨m, rfl⟩ := Int.eq_ofNat_of_zero_le h0
     exact ⟨m, rfl, Z1⟩
    simp only [mem_cons, not_mem_nil, or_false] at hnm
    rcases hnm with rfl | rfl | rfl
    ·exact key _ n0 n1
    ·exact key 0 Z1 f0
    ·exact key (far - 1) Z1 Z1
   obtain ⟨m, rfl, hm⟩ := hnum
   refine ⟨_, rfl, c, 4, 3, rfl, Z0, Z0, Z0, fun H6 s6 => ⟨p3, _, _, V.int ((m : Nat) : Int), rfl, rfl, SqL.of (s6 _ _ ao), hnat, by show 3 <= sizeLine; decide, fun p4 hp4 => ?_⟩⟩
   exact q _ _ ⟨sg, .num m⟩ ((s24.trans (s5.trans ((aB.new hp3).trans s6))).put hp4) ⟨hsg, hm⟩ hfst ⟨p4, _, rfl, ao, rfl⟩
  ·have m1 := cP c 5 (m := 4) Z0
   have m2 := cN c 5 (m := 4) Z0
   refine ⟨_, rfl, c, 5, 4, rfl, Z0, Z0, Z0, fun H4 s4 => ?_⟩
   refine ⟨_, _, rfl, rfl, _, rfl, Z1, Z1, ?_⟩
   refine nR (fun i v H' => ∃ z, v = V.str z /\ dq z) (fun i v H' H'' h _ => h) (le_trans (show (1 + pick c 5 4).toNat <= 8 by omega) Z0) (fun j H' Q' hj sm k' => ?_) (fun xs H5 s5 hl hx d hd5 => ?_)
   ·have hj' : j < (1 + pick c 5 4).toNat := hj
    exact ⟨_, rfl, _, rfl, c, 0 + (j : Int), rfl, Z1, Z1, fun H6 s6 => ⟨_, rfl, fun z hz H7 s7 => k' _ H7 (s6.trans s7) ⟨z, rfl, hz⟩⟩⟩
   ·obtain ⟨ys, hyl, rfl, hyn⟩ := zc hx
    have hgn : fV ys := by
     refine ⟨fun z => ?_, Z1, hyn⟩
     rw [z, map_nil, length_nil] at hl
     omega
    have s6 : aB H (upd H5 d (.lst (ys.map V.str))) := (s2.trans (s3.trans (s4.trans s5))).put hd5
    have hdd : upd H5 d (.lst (ys.map V.str)) d = some (.lst (ys.map V.str)) := ao
    generalize upd H5 d (.lst (ys.map V.str)) = H6 at s6 hdd
    refine ⟨_, rfl, by show 2 <= sizeLine; decide, fun p2 hp2 => ?_⟩
    have hkat : atI [V.str "path", V.str "call"] (if decide (V.int way = V.int 3) = true then 1 else 0) = some (V.str (kindOf (.nms (decide (V.int way = V.int 3)) ys))) := by cases decide (V.int way = V.int 3) <;> rfl
    refine ⟨_, rfl, rfl, .inr ⟨_, rfl, p2, _, _, _, rfl, rfl, SqL.of ao, hkat, ?_⟩⟩
    refine ⟨_, rfl, d, _, rfl, .inl ⟨SqL.of ((aB.new hp2) _ _ hdd), fun p3 hp3 => ⟨by show 3 <= sizeLine; decide, fun p4 hp4 => ?_⟩⟩⟩
    refine q _ _ ⟨sg, .nms (decide (V.int way = V.int 3)) ys⟩ (((s6.put hp2).put hp3).put hp4) ⟨hsg, hgn⟩ hfst ⟨p4, _, rfl, ao, p3, rfl, ?_⟩
    exact (aB.new hp4) _ _ ao
theorem wY (T : Tx K mg C) (F : Fun K "_law_terms" "_law_terms" jF f fd) : aO P w K mg base CX0 5 f fd tD yZ := by
 obtain ⟨fbc, dbc, Abc⟩ := T.abc
 have Gbc : aO P w K mg base CX0 4 fbc dbc yS HY := zL T Abc.F
 obtain ⟨fab, dab, Aab⟩ := T.aab
 have Gab : aO P w K mg base CX0 1 fab dab rZ v9 := uN Aab.F
 obtain ⟨faa, daa, Aaa⟩ := T.aaa
 have Gaa : aO P w K mg base CX0 1 faa daa gh jW := iH Aaa.F
 refine F.oq JK fun _ _ _ _ H _ Q E hr h => ?_
 ·obtain ⟨c, rfl, q⟩ := h
  have hr1 : bh 1 _ := hr.mono Z0
  have hr4 : bh 4 _ := hr
  refine ⟨_, QSs.h (az (aD (dX (N := ["_law_k", "_law_cell_here"]) [none, some 0] rfl Z5 (lA Z3 T.range (aj (aJ cA aq (aU Aaa Gaa hr1 (aj (pv 0) (aj aq (aj aq ak))))) ak)) (fun cl C fp s H => (bj (i := 0) (by decide +kernel : (["_law_k", "_law_cell_here"] : List Str).Nodup) rfl (Or.inl rfl))) (fun cl C fp s H => fL) (fun cl C fp s H => (aU Abc Gbc hr4 (aj (aU Aab Gab hr1 (aj (pv 1) (aj (aJ cA aq (aJ ik aq (pv 0))) ak))) (aj (bJ bw (pv 0) aq (aH _)) ak))))))), ?_⟩
  have m1 := cP c 0 (m := 6) Z0
  have m2 := cN c 0 (m := 6) Z0
  refine ⟨_, rfl, c, 0, 6, rfl, Z0, Z0, Z0, fun H1 s1 => ?_⟩
  refine ⟨_, _, rfl, rfl, _, rfl, Z1, Z1, ?_⟩
  refine nR (fun i v H' => ∃ t, m9 t /\ (i = 0 -> t.sg = 1) /\ eY H' v t) (fun i v H' H'' ⟨t, a, b, d⟩ s => ⟨t, a, b, d.same s⟩) (le_trans (show (1 + pick c 0 6).toNat <= 8 by omega) Z0) (fun i H' Q' hi sm k' => ?_) (fun xs H2 s2 hl hx p hp => ?_)
  ·have hi' : i < (1 + pick c 0 6).toNat := hi
   refine ⟨_, rfl, _, rfl, _, _, rfl, rfl, .inl ⟨Z0, Z0⟩, _, _, rfl, rfl, c, 1 + 5 * (0 + (i : Int)), rfl, Z1, Z1, fun H3 s3 => ?_⟩
   refine ⟨_, rfl, rfl, _, _, rfl, fun v H4 t s4 gt g0 tm => ?_⟩
   refine k' v H4 (s3.trans s4) ⟨t, gt, fun e => g0 (decide_eq_true ?_), tm⟩
   subst e
   rfl
  ·obtain ⟨ts, htl, hts⟩ := nJ (fun i v t => m9 t /\ (i = 0 -> t.sg = 1) /\ eY H2 v t) xs 0 (fun i v e => by rw [Nat.zero_add]; exact hx i v e)
   have back : ∀ (i : Nat) t, ts[i]? = some t -> ∃ v, xs[i]? = some v := fun i t e => by
    have hi := (List.getElem?_eq_some_iff.mp e).1
    exact ⟨xs[i]'Z1, getElem?_eq_getElem Z1⟩
   refine q p _ ts ((s1.trans s2).free hp) ((s1.trans s2).put hp) ⟨fun z => ?_, Z1, fun t ht => ?_, fun t ht => ?_⟩ ⟨xs, ao, htl.symm, fun i x e => ?_⟩
   ·rw [z] at htl; simp at htl; omega
   ·obtain ⟨i, hi, e⟩ := List.getElem_of_mem ht
    have e' : ts[i]? = some t := by rw [getElem?_eq_getElem hi, e]
    obtain ⟨v, hv⟩ := back i t e'
    obtain ⟨t', et, gt, _⟩ := hts i v hv
    rw [e'] at et; cases et
    exact gt
   ·have e' : ts[0]? = some t := by rw [<- List.head?_eq_getElem?]; exact ht
    obtain ⟨v, hv⟩ := back 0 t e'
    obtain ⟨t', et, _, g0, _⟩ := hts 0 v hv
    rw [e'] at et; cases et
    exact g0 rfl
   ·obtain ⟨t, et, _, _, tm⟩ := hts i x e
    exact ⟨t, et, tm.same (aB.new hp)⟩
theorem zy (T : Tx K mg C) (F : Fun K "_law_word" "_law_word" lJ f fd) : aO P w K mg base CX0 1 f fd yg HS := by
 refine F.oq xK fun _ _ _ _ H _ Q E hr h => ?_
 ·obtain ⟨v, t, rfl, tm, gt, q⟩ := h
  refine ⟨_, QSs.h (au (Bt (pv 0) (nW (K := K) (n := 3) rfl rfl (bM (bj (i := 1) xK.nd rfl (Or.inl rfl)) (bM (bj (i := 2) xK.nd rfl (Or.inl rfl)) (bM (bj (i := 3) xK.nd rfl (Or.inl rfl)) nY)))))
   (au (bc (aG bw (pv 2) aA (aH _)) (az (aD (bL qu Z3 T.t_str boot_str (aj (pv 3) ak)))) aL)
   (az (aD (aJ aN (dU plainAttrs_str slot_str_join type_str_join m6 aA (aj (pv 3) ak)) (aJ oX aA (bL eX Z3 T.t_int boot_int (aj (bJ bw (pv 2) aA (aH _)) ak)))))))), ?_⟩
  obtain ⟨p, x, rfl, hp, hx⟩ := tm
  refine ⟨_, rfl, p, _, rfl, SqT.of hp, rfl, _, _, rfl, _, _, rfl, _, _, rfl, rfl, ?_⟩
  have gth := gt.th
  have q0 := q H (aB.refl H)
  generalize t.th = th at hx gth q0 hp
  cases th with
  | num m =>
   cases hx
   exact ⟨_, rfl, rfl, _, rfl, bu (decide_eq_true (show V.str (kindOf (.num m)) = V.str "number" from rfl)) ⟨_, rfl, _, rfl, log2_small gth, q0⟩⟩
  | nms c ys =>
   have gn : fV ys := gth
   obtain ⟨r, rfl, hr'⟩ := hx
   have hkn : ¬ V.str (kindOf (.nms c ys)) = V.str "number" := by
    cases c
    ·show ¬ V.str "path" = V.str "number"; decide +kernel
    ·show ¬ V.str "call" = V.str "number"; decide +kernel
   refine ⟨_, rfl, rfl, _, rfl, aM (decide_eq_false hkn) ?_⟩
   have hs : (ys.map (·.length)).sum <= ys.length * 8 := pD fun y hy => (gn.nm y hy).hi
   have h4 := gn.hi
   have hdl := gn.len
   refine ⟨rfl, _, rfl, _, r, ys, rfl, rfl, .inr (SqT.of hr'), by rw [yd]; omega, ?_⟩
   have hk : decide (V.str (kindOf (.nms c ys)) = V.str "call") = c := by
    cases c
    ·exact decide_eq_false (by show ¬ V.str "path" = V.str "call"; decide +kernel)
    ·exact decide_eq_true rfl
   refine ⟨_, rfl, rfl, .inr ⟨_, rfl, brk, _, rfl, rfl, Ay _, _, _, rfl, rfl, ?_, ?_⟩⟩
   ·rw [CQ]
    have : (dotted ys).length + (if decide (V.str (kindOf (.nms c ys)) = V.str "call") = true then brk else Str.empty).length <= 1000 := by
     split
     ·rw [iT]; omega
     ·show (dotted ys).length + 0 <= 1000; omega
    exact le_trans this cX
   ·show Q (.str (dotted ys ++ Txt.mul brk (if decide (V.str (kindOf (.nms c ys)) = V.str "call") = true then 1 else 0))) H
    rw [CQ, hk]
    cases c with
    | true => exact q0
    | false =>
     rw [if_neg Z0, DK]
     exact q0
theorem zK (T : Tx K mg C) (F : Fun K "_law_text" "_law_text" lU f fd) : aO P w K mg base CX0 2 f fd xP qZ := by
 obtain ⟨fax, dax, Aax⟩ := T.aax
 have Gax : aO P w K mg base CX0 1 fax dax yg HS := zy T Aax.F
 refine F.oq xm fun _ _ _ _ H _ Q E hr h => ?_
 ·obtain ⟨l, ts, rfl, ⟨xs, hl, hxl, hx⟩, hg, q⟩ := h
  have hr1 : bh 1 _ := hr
  refine ⟨_, QSs.h (au (bz (i := 1) xm.nd rfl (Or.inl rfl) (aU Aax Gax hr1 (aj (aX aP (pv 0) aq) ak)))
   (au (nq PassesOwn.never rfl (gG (bB cB (pv 0) (bI aq) bH)) (bj (i := 2) xm.nd rfl (Or.inl rfl))
   (az (bz (i := 1) xm.nd rfl (Or.inl rfl) (aJ aN (aJ aN (pv 1) (aX aP (bC (aj aA (aj aA ak))) (bL eX Z3 T.t_int boot_int (aj (bJ bw (aX kj (pv 2) aq) aq (aH _)) ak)))) (aU Aax Gax hr1 (aj (pv 2) ak))))))
   (az (aD (pv 1))))), ?_⟩
  cases ts with
  | nil => exact absurd rfl hg.lo
  | cons t0 tr =>
  cases xs with
  | nil => simp at hxl
  | cons x0 xr =>
  obtain ⟨t0', e0, tm0⟩ := hx 0 x0 rfl
  cases e0
  have h6 := hg.hi
  have hll : xr.length = tr.length := by simpa using hxl
  refine ⟨_, rfl, l, _, _, x0, rfl, rfl, SqL.of hl, cM (j := 0) rfl, x0, t0, rfl, tm0, hg.ok t0 mem_cons_self, fun H1 s1 => ?_⟩
  refine ⟨_, rfl, _, rfl, l, _, rfl, SqL.of (s1 _ _ hl), fun p hp => ?_⟩
  rw [Fw]
  have s2 : aB H (upd H1 p (.lst (List.drop 1 (x0 :: xr)))) := s1.put hp
  refine ⟨p, rfl, ⟨_, SqL.of ao⟩, ?_⟩
  have hp2' : upd H1 p (.lst (List.drop 1 (x0 :: xr))) p = some (.lst xr) := ao
  generalize upd H1 p (.lst (List.drop 1 (x0 :: xr))) = H2 at s2 hp2'
  refine qD (xs := xr) (fun i σ H' => ∃ v2, σ = [some (.ref l), some (.str (textOf ((t0 :: tr).take (i + 1)))), v2] /\ aB H2 H') ⟨none, rfl, aB.refl _⟩ ?_ ?_ ?_
  ·rintro i σ H' _ ⟨v2, rfl, sm⟩
   exact SqL.of (sm _ _ hp2')
  ·rintro i x σ H3 hxi ⟨v2, rfl, sm⟩
   obtain ⟨t, et, tm⟩ := hx (i + 1) x (by simpa using hxi)
   have gt : m9 t := hg.ok t (mem_of_getElem? et)
   have tm3 : eY H3 x t := tm.same (s2.trans sm)
   obtain ⟨a, y, rfl, ha, hy⟩ := id tm3
   have wl := ul gt.th
   have tl := t6 (ts := (t0 :: tr).take (i + 1)) fun t ht => hg.ok t (List.mem_of_mem_take ht)
   have tll : ((t0 :: tr).take (i + 1)).length <= 6 := by rw [length_take]; omega
   have gl := JT t.sg
   have hgat : atI [V.str " - ", V.str " + "] (if decide (V.int t.sg = V.int 1) = true then 1 else 0) = some (V.str (gap t.sg)) := by
    unfold gap
    by_cases h : t.sg = 1
    ·rw [decide_eq_true (congrArg V.int h), if_pos h]; rfl
    ·rw [decide_eq_false (fun e => h (V.int.inj e)), if_neg h]; rfl
   refine ⟨_, rfl, by show 2 <= sizeLine; decide, fun b hb => ?_⟩
   refine ⟨_, rfl, a, _, _, V.int t.sg, rfl, rfl, SqT.of ((aB.new hb) _ _ ha), rfl, rfl, .inr ⟨_, rfl, b, _, _, _, rfl, rfl, SqL.of ao, hgat, ?_⟩⟩
   refine ⟨_, _, rfl, rfl, le_trans (show _ <= 1000 by omega) cX, _, rfl, _, t, rfl, tm3.same (aB.new hb), gt, fun H4 s4 => ?_⟩
   refine ⟨_, _, rfl, rfl, le_trans (show _ <= 1000 by rw [bO]; omega) cX, ?_⟩
   refine ⟨some (V.ref a), ?_, sm.trans ((aB.new hb).trans s4)⟩
   have e3 : textOf ((t0 :: tr).take (i + 1 + 1)) = textOf ((t0 :: tr).take (i + 1)) ++ gap t.sg ++ wordOf t.th := by
    rw [take_add_one (i := i + 1), et]
    exact zE t Z2
   rw [e3]
   rfl
  ·rintro σ H3 ⟨v2, rfl, sm⟩
   have e : (t0 :: tr).take (xr.length + 1) = t0 :: tr := take_of_length_le Z6
   have q' := q H3 (s2.trans sm)
   rw [<- e] at q'
   exact ⟨_, rfl, q'⟩
theorem Ba (T : Tx K mg C) (F : Fun K "_law_row" "_law_row" oK f fd) : aO P w K mg base CX0 6 f fd Do Kp := by
 obtain ⟨fa6, da6, Aa6⟩ := T.aa6
 have Ga6 : aO P w K mg base CX0 5 fa6 da6 tD yZ := wY T Aa6.F
 obtain ⟨faa, daa, Aaa⟩ := T.aaa
 have Gaa : aO P w K mg base CX0 1 faa daa gh jW := iH Aaa.F
 obtain ⟨fbr, dbr, Abr⟩ := T.abr
 have Gbr : aO P w K mg base CX0 4 fbr dbr oJ Hz := tX T Abr.F
 obtain ⟨fae, dae, Aae⟩ := T.aae
 have Gae : aO P w K mg base CX0 3 fae dae lO pQ := iW T Aae.F
 obtain ⟨fab, dab, Aab⟩ := T.aab
 have Gab : aO P w K mg base CX0 1 fab dab rZ v9 := uN Aab.F
 refine F.oq zJ fun _ _ _ _ H _ Q E hr h => ?_
 ·obtain ⟨c, z, rfl, hz, q⟩ := h
  have hr1 : bh 1 _ := hr.mono Z0
  have hr3 : bh 3 _ := hr.mono Z0
  have hr4 : bh 4 _ := hr.mono Z0
  have hr5 : bh 5 _ := hr
  refine ⟨_, QSs.h (au (Cq (i := 2) zJ.nd rfl (Or.inl rfl) (J5 aP (Cy (aV aA (aV aA (aV aA (aV aA (aV aA (aV aA qN))))))) (aU Aaa Gaa hr1 (aj (pv 0) (aj aq (aj aq ak))))))
   (au (bz (i := 3) zJ.nd rfl (Or.inl rfl) (aU Aa6 Ga6 hr5 (aj (pv 0) ak)))
   (au (bc (aG bw (pv 2) aA (aH _)) (az (xu (N := ["_law_sign", "_law_kind", "_law_thing"]) [none, none, none] (i := 3) zJ.nd rfl (Or.inl rfl) rfl Z5 (gG (pv 3)) (fun cl C fp s H => (nW (K := K) (n := 3) rfl rfl (bM (bj (i := 0) (by decide +kernel : (["_law_sign", "_law_kind", "_law_thing"] : List Str).Nodup) rfl (Or.inl rfl)) (bM (bj (i := 1) (by decide +kernel : (["_law_sign", "_law_kind", "_law_thing"] : List Str).Nodup) rfl (Or.inl rfl)) (bM (bj (i := 2) (by decide +kernel : (["_law_sign", "_law_kind", "_law_thing"] : List Str).Nodup) rfl (Or.inl rfl)) nY))))) (fun cl C fp s H => fL) (fun cl C fp s H => (cR (aj (pv 0) (aj (aX (GR (K := K) rfl) (bC (aj aA (aj (pv 1) ak))) (bL eX Z3 T.t_int boot_int (aj (bJ bw (pv 1) aA (aH _)) ak))) (aj (pv 2) ak))))))) aL)
   (au (bc (aG bw (pv 2) aA (aH _)) (az (bz (i := 1) zJ.nd rfl (Or.inl rfl) aA)) aL)
   (az (aD (cR (aj (pv 2) (aj (pv 1) (aj (aU Abr Gbr hr4 (aj (aU Aab Gab hr1 (aj (pv 0) (aj aq ak))) ak)) (aj (aU Aae Gae hr3 (aj (aU Aab Gab hr1 (aj (pv 0) (aj aq ak))) ak)) (aj (pv 3) ak)))))))))))), ?_⟩
  have k1 := cP c 10 (m := 6) Z0
  have k2 := cN c 10 (m := 6) Z0
  refine ⟨by show 6 <= sizeLine; decide, fun p hp => ?_⟩
  refine ⟨_, rfl, c, 10, 6, rfl, Z0, Z0, Z0, fun H1 s1 => ⟨p, _, _, _, rfl, rfl, SqL.of (s1 _ _ ao), DN k1 k2, ?_⟩⟩
  have hso : (pick c 10 6).toNat <= 5 := by omega
  generalize (pick c 10 6).toNat = so at hso
  refine ⟨_, rfl, c, rfl, fun l H2 ts hlf s2 hgt hts => ?_⟩
  have s02 : aB H H2 := (aB.new hp).trans (s1.trans s2)
  have hl0 : H l = none := ((aB.new hp).trans s1).free hlf
  by_cases h1 : so = 1
  ·subst h1
   refine ⟨_, rfl, rfl, _, rfl, bu (sT 1) ?_⟩
   obtain ⟨xs, hl2, hxl, hxt⟩ := id hts
   have h6 := hgt.hi
   refine ⟨_, rfl, l, rfl, ⟨_, SqL.of hl2⟩, Bh (xs := xs) (fun τ => ∃ u v w, τ = [u, v, w]) (fun i v H' => ∃ t, ts[i]? = some t /\ eY H' v (unc t)) (fun i v H' H'' ⟨t, et, tm⟩ s => ⟨t, et, tm.same s⟩) (le_trans (show xs.length <= 1000 by omega) cX) (SqL.of hl2) ⟨_, _, _, rfl⟩ (fun i x τ H' Q' hx sm hS k' => ?_) (fun ys H3 s3 hyl hys lt hlt => ?_)⟩
   ·obtain ⟨u, v, w, rfl⟩ := hS
    obtain ⟨t, et, tm⟩ := hxt i x hx
    obtain ⟨pp, y, rfl, hpp, hy⟩ := tm.same sm
    refine ⟨pp, _, rfl, SqT.of hpp, rfl, _, _, rfl, _, _, rfl, _, _, rfl, rfl, ?_⟩
    refine ⟨_, rfl, _, rfl, by show 2 <= sizeLine; decide, fun p2 hp2 => ⟨_, rfl, rfl, .inr ⟨_, rfl, p2, _, _, _, rfl, rfl, SqL.of ao, Fp t.th, _, rfl, by show 3 <= sizeLine; decide, fun p3 hp3 => ?_⟩⟩⟩
    exact k' _ _ _ ⟨_, _, _, rfl⟩ ((aB.new hp2).put hp3) ⟨t, et, p3, y, rfl, ao, hy.unc.same ((aB.new hp2).put hp3)⟩
   have s4 : aB H2 (upd H3 lt (.lst ys)) := s3.put hlt
   have ht4 : eU (upd H3 lt (.lst ys)) lt (ts.map unc) := ⟨ys, ao, by rw [length_map, hyl, hxl], fun i v e => by
    obtain ⟨t, et, tm⟩ := hys i v e
    exact ⟨unc t, by rw [getElem?_map, et]; rfl, tm.same (aB.new hlt)⟩⟩
   have hlt0 : H lt = none := (s02.trans s3).free hlt
   generalize upd H3 lt (.lst ys) = H4 at s4 ht4
   refine ⟨_, rfl, rfl, _, rfl, aM (sF 1 5) ?_⟩
   refine ⟨_, rfl, _, rfl, _, rfl, c, 31, rfl, Z0, Z0, fun H5 s5 => ⟨_, rfl, fun ys hys H6 s6 => ⟨_, rfl, c, 35, rfl, Z0, Z0, fun H7 s7 => ⟨_, rfl, fun wz hwz H8 s8 => ⟨_, rfl, by show 5 <= sizeLine; decide, fun p2 hp2 => ?_⟩⟩⟩⟩⟩
   have s38 : aB H4 (upd H8 p2 (.tup [.str (bT 1), .str z, .str (dotted ys), .str wz, .ref lt])) := (s5.trans (s6.trans (s7.trans s8))).put hp2
   exact q _ lt _ ⟨1, z, dotted ys, wz, ts.map unc⟩ ⟨Z1, fun _ => hz, fun k => by simp at k, ⟨ys, hys, rfl⟩, hwz, DG hgt, fun _ => MJ⟩ ((s02.trans s4).trans s38) hlt0 ⟨p2, rfl, ao, ht4.same s38⟩
  by_cases h5 : so = 5
  ·subst h5
   refine ⟨_, rfl, rfl, _, rfl, aM (sF 5 1) ?_⟩
   refine ⟨_, rfl, rfl, _, rfl, bu (sT 5) ?_⟩
   refine ⟨_, rfl, _, rfl, _, rfl, c, 31, rfl, Z0, Z0, fun H5 s5 => ⟨_, rfl, fun ys hys H6 s6 => ⟨_, rfl, c, 35, rfl, Z0, Z0, fun H7 s7 => ⟨_, rfl, fun wz hwz H8 s8 => ⟨_, rfl, by show 5 <= sizeLine; decide, fun p2 hp2 => ?_⟩⟩⟩⟩⟩
   have s38 : aB H2 (upd H8 p2 (.tup [.str (bT 5), .str "", .str (dotted ys), .str wz, .ref l])) := (s5.trans (s6.trans (s7.trans s8))).put hp2
   exact q _ l _ ⟨5, "", dotted ys, wz, ts⟩ ⟨Z1, fun k => by simp at k, fun _ => rfl, ⟨ys, hys, rfl⟩, hwz, hgt, fun k => by simp at k⟩ (s02.trans s38) hl0 ⟨p2, rfl, ao, hts.same s38⟩
  ·refine ⟨_, rfl, rfl, _, rfl, aM (sF so 1 (by unfold jV; rw [decide_eq_false h1]; rfl) hso) ?_⟩
   refine ⟨_, rfl, rfl, _, rfl, aM (sF so 5 (by unfold jV; rw [decide_eq_false h5]; rfl) hso) ?_⟩
   refine ⟨_, rfl, _, rfl, _, rfl, c, 31, rfl, Z0, Z0, fun H5 s5 => ⟨_, rfl, fun ys hys H6 s6 => ⟨_, rfl, c, 35, rfl, Z0, Z0, fun H7 s7 => ⟨_, rfl, fun wz hwz H8 s8 => ⟨_, rfl, by show 5 <= sizeLine; decide, fun p2 hp2 => ?_⟩⟩⟩⟩⟩
   have s38 : aB H2 (upd H8 p2 (.tup [.str (bT so), .str z, .str (dotted ys), .str wz, .ref l])) := (s5.trans (s6.trans (s7.trans s8))).put hp2
   exact q _ l _ ⟨so, z, dotted ys, wz, ts⟩ ⟨Z1, fun _ => hz, fun k => absurd k h5, ⟨ys, hys, rfl⟩, hwz, hgt, fun k => absurd k h1⟩ (s02.trans s38) hl0 ⟨p2, rfl, ao, hts.same s38⟩
theorem rK (T : Tx K mg C) (F : Fun K "_law_said" "_law_said" m5 f fd) : aO P w K mg base CX0 3 f fd uM yK := by
 obtain ⟨fay, day, Aay⟩ := T.aay
 have Gay : aO P w K mg base CX0 2 fay day xP qZ := zK T Aay.F
 refine F.oq qY fun _ _ _ _ H _ Q E hr h => ?_
 ·obtain ⟨v, lt, r, rfl, rt, hg, q⟩ := h
  have hr2 : bh 2 _ := hr
  refine ⟨_, QSs.h (au (Bt (pv 0) (nW (K := K) (n := 5) rfl rfl (bM (bj (i := 1) qY.nd rfl (Or.inl rfl)) (bM (bj (i := 2) qY.nd rfl (Or.inl rfl)) (bM (bj (i := 3) qY.nd rfl (Or.inl rfl)) (bM (bj (i := 4) qY.nd rfl (Or.inl rfl)) (bM (bj (i := 5) qY.nd rfl (Or.inl rfl)) nY)))))))
   (au (bc (PW.pt (dw (aG bw (pv 1) aA (aH _)) (eN (aG bw (pv 1) aA (aH _))))) (az (aD (aJ aN (aJ aN (aJ aN (aJ aN (pv 1) aA) (pv 3)) aA) (pv 2)))) aL)
   (au (bc (aG bw (pv 1) aA (aH _)) (az (aD (aJ aN (aJ aN (aJ aN (aJ aN (aJ aN aA (pv 4)) aA) (pv 3)) aA) (pv 2)))) aL)
   (au (bc (aG bw (pv 1) aA (aH _)) (az (aD (aJ aN aA (aU Aay Gay hr2 (aj (pv 5) ak))))) aL)
   (az (aD (aJ aN (aJ aN (aJ aN (aJ aN (pv 1) aA) (pv 2)) aA) (aU Aay Gay hr2 (aj (pv 5) ak))))))))), ?_⟩
  obtain ⟨p, aa', ww', rfl, hp, hA, hW, htt⟩ := id rt
  obtain ⟨so, nn, aa, ww, tt⟩ := r
  have h5 : so <= 5 := hg.so
  have e1 : nn.length <= 8 := hg.nl
  have e2 : aa.length <= 36 := hg.al
  have e3 : (textOf tt).length <= 480 := hg.tl
  have e4 : ww.length <= 8 := hg.wd.hi
  have gts : cj tt := hg.ts
  refine ⟨_, rfl, p, _, rfl, SqT.of hp, rfl, _, _, rfl, _, _, rfl, _, _, rfl, _, _, rfl, _, _, rfl, rfl, ?_⟩
  rcases six h5 with rfl | rfl | rfl | rfl | rfl | rfl
  ·have e : cG ⟨0, nn, aa, ww, tt⟩ = bT 0 ++ " " ++ nn ++ " be " ++ textOf tt := by rw [FW rfl]; show _ = ("let" : Str) ++ " " ++ nn ++ " be " ++ textOf tt; rw [Vc]
   rw [e] at q
   refine ⟨_, rfl, rfl, _, rfl, aM (sF 0 2) ⟨_, rfl, rfl, _, rfl, aM (sF 0 3) ⟨_, rfl, rfl, _, rfl, aM (sF 0 4) ⟨_, rfl, rfl, _, rfl, aM (sF 0 5) ?_⟩⟩⟩⟩
   exact ⟨_, rfl, _, _, rfl, rfl, abS (le_of_eq xT) (le_of_eq dJ), _, rfl, _, _, rfl, rfl, abS (alS (le_of_eq xT) (le_of_eq dJ)) e1, _, _, rfl, rfl, abS (alS (alS (le_of_eq xT) (le_of_eq dJ)) e1) (le_of_eq jU), _, rfl, lt, tt, rfl, htt (.inl rfl), gts, fun H' s' => ⟨_, _, rfl, rfl, abS (alS (alS (alS (le_of_eq xT) (le_of_eq dJ)) e1) (le_of_eq jU)) e3, q H' s'⟩⟩
  ·have e : cG ⟨1, nn, aa, ww, tt⟩ = bT 1 ++ " " ++ nn ++ " be " ++ textOf tt := by rw [Ft rfl]; show _ = ("deed" : Str) ++ " " ++ nn ++ " be " ++ textOf tt; rw [LQ]
   rw [e] at q
   refine ⟨_, rfl, rfl, _, rfl, aM (sF 1 2) ⟨_, rfl, rfl, _, rfl, aM (sF 1 3) ⟨_, rfl, rfl, _, rfl, aM (sF 1 4) ⟨_, rfl, rfl, _, rfl, aM (sF 1 5) ?_⟩⟩⟩⟩
   exact ⟨_, rfl, _, _, rfl, rfl, abS (le_of_eq tH) (le_of_eq dJ), _, rfl, _, _, rfl, rfl, abS (alS (le_of_eq tH) (le_of_eq dJ)) e1, _, _, rfl, rfl, abS (alS (alS (le_of_eq tH) (le_of_eq dJ)) e1) (le_of_eq jU), _, rfl, lt, tt, rfl, htt (.inr (.inl rfl)), gts, fun H' s' => ⟨_, _, rfl, rfl, abS (alS (alS (alS (le_of_eq tH) (le_of_eq dJ)) e1) (le_of_eq jU)) e3, q H' s'⟩⟩
  ·have eA : aa = aa' := (hA (.inl rfl)).symm
   subst eA
   have e : cG ⟨2, nn, aa, ww, tt⟩ = bT 2 ++ " " ++ aa ++ " as " ++ nn := by rw [Gv rfl]; show _ = ("draw" : Str) ++ " " ++ aa ++ " as " ++ nn; rw [K5]
   rw [e] at q
   refine ⟨_, rfl, rfl, _, rfl, bu (sT 2) (jo ?_)⟩
   exact ⟨_, rfl, _, _, rfl, rfl, abS (le_of_eq sZ) (le_of_eq dJ), _, rfl, _, _, rfl, rfl, abS (alS (le_of_eq sZ) (le_of_eq dJ)) e2, _, _, rfl, rfl, abS (alS (alS (le_of_eq sZ) (le_of_eq dJ)) e2) (le_of_eq eO), _, rfl, _, _, rfl, rfl, abS (alS (alS (alS (le_of_eq sZ) (le_of_eq dJ)) e2) (le_of_eq eO)) e1, q H (aB.refl H)⟩
  ·have eA : aa = aa' := (hA (.inr (.inl rfl))).symm
   subst eA
   have e : cG ⟨3, nn, aa, ww, tt⟩ = bT 3 ++ " " ++ aa ++ " as " ++ nn := by rw [Gq rfl]; show _ = ("late" : Str) ++ " " ++ aa ++ " as " ++ nn; rw [Mr]
   rw [e] at q
   refine ⟨_, rfl, rfl, _, rfl, aM (sF 3 2) ⟨_, rfl, rfl, _, rfl, bu (sT 3) ?_⟩⟩
   exact ⟨_, rfl, _, _, rfl, rfl, abS (le_of_eq sW) (le_of_eq dJ), _, rfl, _, _, rfl, rfl, abS (alS (le_of_eq sW) (le_of_eq dJ)) e2, _, _, rfl, rfl, abS (alS (alS (le_of_eq sW) (le_of_eq dJ)) e2) (le_of_eq eO), _, rfl, _, _, rfl, rfl, abS (alS (alS (alS (le_of_eq sW) (le_of_eq dJ)) e2) (le_of_eq eO)) e1, q H (aB.refl H)⟩
  ·have eA : aa = aa' := (hA (.inr (.inr rfl))).symm
   subst eA
   have eW : ww = ww' := (hW rfl).symm
   subst eW
   rw [Gi (r := ⟨4, nn, aa, ww, tt⟩) rfl] at q
   refine ⟨_, rfl, rfl, _, rfl, aM (sF 4 2) ⟨_, rfl, rfl, _, rfl, aM (sF 4 3) ⟨_, rfl, rfl, _, rfl, bu (sT 4) ?_⟩⟩⟩
   exact ⟨_, rfl, _, _, rfl, rfl, abS (le_of_eq dD) e4, _, _, rfl, rfl, abS (alS (le_of_eq dD) e4) (le_of_eq len_from), _, rfl, _, _, rfl, rfl, abS (alS (alS (le_of_eq dD) e4) (le_of_eq len_from)) e2, _, _, rfl, rfl, abS (alS (alS (alS (le_of_eq dD) e4) (le_of_eq len_from)) e2) (le_of_eq eO), _, rfl, _, _, rfl, rfl, abS (alS (alS (alS (alS (le_of_eq dD) e4) (le_of_eq len_from)) e2) (le_of_eq eO)) e1, q H (aB.refl H)⟩
  ·rw [Hu (r := ⟨5, nn, aa, ww, tt⟩) rfl] at q
   refine ⟨_, rfl, rfl, _, rfl, aM (sF 5 2) ⟨_, rfl, rfl, _, rfl, aM (sF 5 3) ⟨_, rfl, rfl, _, rfl, aM (sF 5 4) ⟨_, rfl, rfl, _, rfl, bu (sT 5) ?_⟩⟩⟩⟩
   exact ⟨_, rfl, lt, tt, rfl, htt (.inr (.inr rfl)), gts, fun H' s' => ⟨_, _, rfl, rfl, abS (le_of_eq u5) e3, q H' s'⟩⟩
theorem yf (T : Tx K mg C) (F : Fun K "_law_whole" "_law_whole" gR f fd) : aO P w K mg base CX0 1 f fd oE Iz := by
 refine F.oq Cv fun _ _ _ _ H _ Q E hr h => ?_
 ·obtain ⟨i, rfl, q⟩ := h
  refine ⟨_, QSs.h (az (aD (cI (aF bN Z3 T.inst boot_isinstance (aj (pv 0) (aj (cz (v := .ty "int") Z3 T.t_int boot_int rfl) ak))) (eH (Bl (aF bN Z3 T.inst boot_isinstance (aj (pv 0) (aj (cz (v := .ty "bool") Z3 T.t_bool boot_bool rfl) ak)))))))), ?_⟩
  exact ⟨_, rfl, _, _, _, _, rfl, .int _, bW, _, rfl, jo ⟨_, rfl, _, _, _, false, rfl, .int _, Ax Z4 Z4 Z4, _, rfl, q H (aB.refl H)⟩⟩
theorem vQ (T : Tx K mg C) (F : Fun K "_law_whole" "_law_whole" gR f fd) : qC P w K mg base 1 f fd oE Iz := by
 refine F.okH Cv (fun vs H Q E h => ?_) (fun cdv A outer s H vs Q E y hr h => ?_)
 ·obtain ⟨i, rfl, _⟩ := h
  rfl
 ·obtain ⟨i, rfl, q⟩ := h
  refine ⟨_, QSs.h (az (aD (cI (aF (u6 (K := K) rfl) Z3 T.inst boot_isinstance (aj (pv 0) (aj (cz (v := .ty "int") Z3 T.t_int boot_int rfl) ak))) (eH (Bl (aF (u6 (K := K) rfl) Z3 T.inst boot_isinstance (aj (pv 0) (aj (cz (v := .ty "bool") Z3 T.t_bool boot_bool rfl) ak)))))))), ?_⟩
  exact ⟨_, rfl, _, _, _, _, rfl, .int _, bW, _, rfl, jo ⟨_, rfl, _, _, _, false, rfl, .int _, Ax Z4 Z4 Z4, _, rfl, q H (aB.refl H)⟩⟩
theorem uf (T : Tx K mg C) (F : Fun K "_law_term_is" "_law_term_is" gq f fd) : aO P w K mg base CX0 2 f fd qz zf := by
 obtain ⟨faj, daj, Aaj⟩ := T.aaj
 have Gaj : aO P w K mg base CX0 1 faj daj oE Iz := yf T Aaj.F
 refine F.oq Gd fun _ _ _ _ H _ Q E hr h => ?_
 ·obtain ⟨x, y, t, rfl, t1, t2, q⟩ := h
  have hr1 : bh 1 _ := hr
  refine ⟨_, QSs.h (au (bc (PW.pt (dw (cH (bF (aF bN Z3 T.inst boot_isinstance (aj (pv 0) (aj (cz (v := .ty "tuple") Z3 T.t_tuple boot_tuple rfl) ak))))) (dw (aG m8 (aF aY Z3 T.len boot_len (aj (pv 0) ak)) aq (aH _)) (dw (cH (bF (aU Aaj Gaj hr1 (aj (aX kj (pv 0) aq) ak)))) (eN (cH (bF (aF bN Z3 T.inst boot_isinstance (aj (aX kj (pv 0) aq) (aj (cz (v := .ty "str") Z3 T.t_str boot_str rfl) ak)))))))))) (az (aD fK)) aL)
   (au (bc (aG bw (aX kj (pv 1) aq) aA (aH _)) (az (aD (cI (aU Aaj Gaj hr1 (aj (aX kj (pv 0) aq) ak)) (eH (bJ (Bp (K := K) rfl hr.units) (pv 0) (pv 1) (aH _)))))) aL)
   (az (aD (cI (aF bN Z3 T.inst boot_isinstance (aj (aX kj (pv 0) aq) (aj (cz (v := .ty "tuple") Z3 T.t_tuple boot_tuple rfl) ak))) (eH (bJ (Bp (K := K) rfl hr.units) (pv 0) (pv 1) (aH _)))))))), ?_⟩
  obtain ⟨p, a, rfl, hp, ha⟩ := t1
  obtain ⟨r, b, rfl, hr', hb⟩ := t2
  refine ⟨_, rfl, _, _, _, _, rfl, .tup hp, bW, _, rfl, bA ?_⟩
  refine ⟨_, rfl, p, _, rfl, .inr (SqT.of hp), rfl, _, rfl, wA rfl ?_⟩
  refine ⟨_, rfl, p, _, _, V.int t.sg, rfl, rfl, SqT.of hp, rfl, t.sg, rfl, fun H1 s1 => ⟨_, rfl, bA ?_⟩⟩
  refine ⟨_, rfl, p, _, _, V.str (kindOf t.th), rfl, rfl, SqT.of (s1 _ _ hp), rfl, _, _, _, _, rfl, .str _, bW, _, rfl, bA ?_⟩
  refine ⟨_, rfl, r, _, _, V.str (kindOf t.th), rfl, rfl, SqT.of (s1 _ _ hr'), rfl, rfl, _, rfl, ?_⟩
  show if decide (V.str (kindOf t.th) = V.str "number") = true then _ else _
  have d1 : DSq K H1 p r := eY.dsq (s1 _ _ hp) (s1 _ _ hr') (ha.same s1) (hb.same s1)
  cases hth : t.th with
  | num m =>
   rw [hth] at ha
   cases ha
   refine bu (decide_eq_true (show V.str (kindOf (.num m)) = V.str "number" from rfl)) ⟨_, rfl, p, _, _, V.int ((m : Nat) : Int), rfl, rfl, SqT.of (s1 _ _ hp), rfl, _, rfl, fun H2 s2 => ⟨_, rfl, jo ?_⟩⟩
   refine ⟨_, rfl, _, rfl, p, r, rfl, rfl, ?_, q H2 (s1.trans s2)⟩
   exact eY.dsq (s2 _ _ (s1 _ _ hp)) (s2 _ _ (s1 _ _ hr')) (by rw [hth]; rfl) (hb.same (s1.trans s2))
  | nms c ys =>
   have hkn : ¬ V.str (kindOf (.nms c ys)) = V.str "number" := by
    cases c
    ·show ¬ V.str "path" = V.str "number"; decide +kernel
    ·show ¬ V.str "call" = V.str "number"; decide +kernel
   have ha' := ha
   rw [hth] at ha'
   obtain ⟨k, rfl, hk⟩ := ha'
   refine aM (decide_eq_false hkn) ⟨_, rfl, p, _, _, V.ref k, rfl, rfl, SqT.of (s1 _ _ hp), rfl, _, _, _, _, rfl, .tup (s1 _ _ hk), bW, _, rfl, jo ?_⟩
   exact ⟨_, rfl, _, rfl, p, r, rfl, rfl, d1, q H1 s1⟩
theorem rD (T : Tx K mg C) (F : Fun K "_law_terms_are" "_law_terms_are" d7 f fd) : aO P w K mg base CX0 3 f fd mU ut := by
 obtain ⟨fa8, da8, Aa8⟩ := T.aa8
 have Ga8 : aO P w K mg base CX0 2 fa8 da8 qz zf := uf T Aa8.F
 refine F.oq Az fun _ _ _ _ H _ Q E hr h => ?_
 ·obtain ⟨l, r, ts, rfl, ⟨xs, hl, hxl, hx⟩, ⟨ys, hr', hyl, hy⟩, h10, q⟩ := h
  have hr2 : bh 2 _ := hr
  refine ⟨_, QSs.h (au (bc (PW.pt (dw (cH (bF (aF bN Z3 T.inst boot_isinstance (aj (pv 0) (aj (cz (v := .ty "list") Z3 T.t_list boot_list rfl) ak))))) (eN (aG m8 (aF aY Z3 T.len boot_len (aj (pv 0) ak)) (aF aY Z3 T.len boot_len (aj (pv 1) ak)) (aH _))))) (az (aD fK)) aL)
   (az (aD (aF (lw rfl) Z3 T.all boot_all (aj (dX (N := ["_law_one", "_law_other_here"]) [none, none] rfl Z5 (G5 (K := K) rfl Z3 T.zip (aj (pv 0) (aj (pv 1) ak))) (fun cl C fp s H => (nW (K := K) (n := 2) rfl rfl (bM (bj (i := 0) (by decide +kernel : (["_law_one", "_law_other_here"] : List Str).Nodup) rfl (Or.inl rfl)) (bM (bj (i := 1) (by decide +kernel : (["_law_one", "_law_other_here"] : List Str).Nodup) rfl (Or.inl rfl)) nY)))) (fun cl C fp s H => fL) (fun cl C fp s H => (aU Aa8 Ga8 hr2 (aj (pv 0) (aj (pv 1) ak))))) ak))))), ?_⟩
  refine ⟨_, rfl, _, _, _, _, rfl, .lst hl, bW, _, rfl, bA ?_⟩
  refine ⟨_, rfl, l, _, rfl, .inl (SqL.of hl), _, rfl, r, _, rfl, .inl (SqL.of hr'), rfl, _, rfl, wA (by rw [hxl, hyl]) ?_⟩
  refine ⟨_, rfl, _, rfl, l, r, rfl, ⟨_, SqL.of hl⟩, ⟨_, SqL.of hr'⟩, ?_⟩
  refine Gm (xs := xs) (ys := ys) (fun _ => V.bl true) (le_trans (show xs.length <= 1000 by omega) cX) Z1 (SqL.of hl) (SqL.of hr') (fun i x y H' Q' ex ey sm k' => ?_) (fun H' sm p hp => ?_)
  ·obtain ⟨t, et, tm⟩ := hx i x ex
   obtain ⟨t', et', tm'⟩ := hy i y ey
   rw [et] at et'; cases et'
   exact ⟨_, rfl, _, rfl, x, y, t, rfl, tm.same sm, tm'.same sm, k'⟩
  ·refine ⟨p, (List.range xs.length).map fun _ => true, rfl, SqL.of (by rw [ao, map_map]; rfl), ?_⟩
   have e : ((List.range xs.length).map fun _ => true).all id = true := by simp
   have q2 : Pur (.bl (((List.range xs.length).map fun _ => true).all id)) H Q := by rw [e]; exact q
   exact q2 _ (sm.put hp)
theorem zp (T : Tx K mg C) (F : Fun K "_law_says" "_law_says" mD f fd) : aO P w K mg base CX0 4 f fd xV (Di C) := by
 obtain ⟨fan, dan, Aan⟩ := T.aan
 have Gan : aO P w K mg base CX0 3 fan dan uM yK := rK T Aan.F
 refine F.oq uv fun _ _ _ _ H _ Q E hr h => ?_
 ·obtain ⟨a, l, v, lt, r, rfl, ra, rt, hg, q⟩ := h
  have hr3 : bh 3 _ := hr
  refine ⟨_, QSs.h (au (bz (i := 2) uv.nd rfl (Or.inl rfl) (aJ Lq (bC (aj (aX kj (pv 1) aq) ak)) (bL eX Z3 T.t_int boot_int (aj (bJ je (aX kj (pv 1) aq) (cR (aj aA (aj aA (aj aA ak)))) Z3) ak))))
   (au (bz (i := 3) uv.nd rfl (Or.inl rfl) (qF (P := P) (w := w) (K := K) (mg := mg) (base := base) rfl rfl rfl rfl rfl hr3 (pv 0)))
   (au (bz (i := 4) uv.nd rfl (Or.inl rfl) (qF (P := P) (w := w) (K := K) (mg := mg) (base := base) rfl rfl rfl rfl rfl hr3 (pv 0)))
   (au (bz (i := 5) uv.nd rfl (Or.inl rfl) (qF (P := P) (w := w) (K := K) (mg := mg) (base := base) rfl rfl rfl rfl rfl hr3 (pv 0)))
   (au (bc (PW.pt (dw (cH (bF (aF bN Z3 T.inst boot_isinstance (aj (pv 3) (aj (cz (v := .ty "str") Z3 T.t_str boot_str rfl) ak))))) (dw (aG m8 (pv 3) (aX kj (pv 1) aq) (aH _)) (dw (cH (bF (aF bN Z3 T.inst boot_isinstance (aj (pv 4) (aj (cz (v := .ty "list") Z3 T.t_list boot_list rfl) ak))))) (eN (aG (Ha (K := K) rfl hr.units) (pv 4) (pv 2) (aH _))))))) (az (aD fK)) aL)
   (au (jL (dU plainAttrs_list PySem.F.slot_list_append PySem.F.type_list_append lu (pv 4) (aj aA ak)))
   (az (aD (cI (aF bN Z3 T.inst boot_isinstance (aj (pv 5) (aj (cz (v := .ty "str") Z3 T.t_str boot_str rfl) ak))) (cI (bJ bw (pv 5) (aU Aan Gan hr3 (aj (pv 1) ak)) (aH _)) (eH (bJ (Bp (K := K) rfl hr.units) (qF (P := P) (w := w) (K := K) (mg := mg) (base := base) rfl rfl rfl rfl rfl hr3 (pv 0)) (pv 2) (aH _))))))))))))), ?_⟩
  obtain ⟨p, aa', ww', rfl, hp, hA, hW, htt⟩ := id rt
  have h5 := hg.so
  refine ⟨_, rfl, p, _, _, V.str aa', rfl, rfl, SqT.of hp, rfl, by show 1 <= sizeLine; decide, fun d0 hd0 => ?_⟩
  refine ⟨_, rfl, p, _, _, V.str (bT r.so), rfl, rfl, SqT.of ((aB.new hd0) _ _ hp), rfl, by show 3 <= sizeLine; decide, fun t0 ht0 => ?_⟩
  refine ⟨t0, _, rfl, .inr (SqT.of ao), rfl, rfl, .inr ⟨_, rfl, d0, _, _, rfl, rfl, (aB.new ht0) _ _ ao, Mw _, KC _, Ed _, fun d hd => ?_⟩⟩
  refine ⟨_, rfl, rdB T (ra.same (((aB.new hd0).put ht0).put hd)) hg fun H2 s2 => ?_⟩
  have s02 : aB H H2 := (((aB.new hd0).put ht0).put hd).trans s2
  have hdd : H2 d = some (.lst ((iw r).map V.str)) := (s2 _ _ ao).trans (congrArg (fun z => some (HO.lst z)) (Ij h5 hA rfl))
  refine ⟨_, rfl, rdA T (ra.same s02) hg fun b H3 hb s3 hbl => ?_⟩
  refine ⟨_, rfl, rdS T (ra.same (s02.trans s3)) hg fun H4 s4 => ?_⟩
  have s04 : aB H H4 := s02.trans (s3.trans s4)
  have hb4 := s4 _ _ hbl
  have hd4 := s4 _ _ (s3 _ _ hdd)
  refine ⟨_, rfl, _, _, _, _, rfl, .str _, bW, _, rfl, bA ?_⟩
  refine ⟨_, rfl, _, rfl, p, _, _, V.str r.nm, rfl, rfl, SqT.of (s04 _ _ hp), rfl, rfl, _, rfl, wA rfl ?_⟩
  refine ⟨_, rfl, _, _, _, _, rfl, .lst hb4, bW, _, rfl, bA ?_⟩
  refine ⟨_, rfl, _, rfl, b, d, rfl, rfl, Aa hb4 hd4, _, rfl, bA ?_⟩
  refine ⟨_, rfl, .inl ⟨rfl, _, SqL.of hb4⟩, b, _, _, rfl, rfl, hb4, lt_of_lt_of_le (show ((iw r).map V.str).length < 1000 by rw [length_map]; unfold iw; split <;> simp) cX, ?_⟩
  have s25 : aB H2 (upd H4 b (.lst ((iw r).map V.str ++ [V.str "a"]))) := (s3.trans s4).over hb
  generalize upd H4 b (.lst ((iw r).map V.str ++ [V.str "a"])) = H5 at s25
  have s05 : aB H H5 := s02.trans s25
  refine ⟨_, rfl, _, _, _, _, rfl, .str _, bW, _, rfl, jo ?_⟩
  refine ⟨_, rfl, _, rfl, _, lt, r, rfl, rt.same s05, hg, fun H6 s6 => ⟨rfl, _, rfl, bu (decide_eq_true rfl) ?_⟩⟩
  exact ⟨_, rfl, rdA T (ra.same (s05.trans s6)) hg fun b2 H7 hb2 s7 hb2l => ⟨_, rfl, b2, d, rfl, rfl, Aa hb2l (s7 _ _ (s6 _ _ (s25 _ _ hdd))), q H7 (s05.trans (s6.trans s7))⟩⟩
theorem Fi (T : Tx K mg C) (F : Fun K "_law_is" "_law_is" pM f fd) : aO P w K mg base CX0 5 f fd Jj (Di C) := by
 obtain ⟨fbh, dbh, Abh⟩ := T.abh
 have Gbh : aO P w K mg base CX0 3 fbh dbh mU ut := rD T Abh.F
 obtain ⟨fbo, dbo, Abo⟩ := T.abo
 have Gbo : aO P w K mg base CX0 4 fbo dbo xV (Di C) := zp T Abo.F
 refine F.oq wZ fun _ _ _ _ H _ Q E hr h => ?_
 ·obtain ⟨a, l, v, lt, r, rfl, ra, rt, hg, q⟩ := h
  have hr3 : bh 3 _ := hr.mono Z0
  have hr4 : bh 4 _ := hr
  refine ⟨_, QSs.h (au (Bt (pv 1) (nW (K := K) (n := 5) rfl rfl (bM (bj (i := 2) wZ.nd rfl (Or.inr rfl)) (bM (bj (i := 3) wZ.nd rfl (Or.inl rfl)) (bM (bj (i := 4) wZ.nd rfl (Or.inl rfl)) (bM (bj (i := 5) wZ.nd rfl (Or.inl rfl)) (bM (bj (i := 6) wZ.nd rfl (Or.inl rfl)) nY)))))))
   (au (bz (i := 7) wZ.nd rfl (Or.inl rfl) (bC (aj (aF eE Z3 T.inst boot_isinstance (aj (pv 0) (aj (BL T.c_Let) ak))) (aj (aF eE Z3 T.inst boot_isinstance (aj (pv 0) (aj (BL T.c_Deed) ak))) (aj (aF eE Z3 T.inst boot_isinstance (aj (pv 0) (aj (BL T.c_Draw) ak))) (aj (aF eE Z3 T.inst boot_isinstance (aj (pv 0) (aj (BL T.c_Late) ak))) ak))))))
   (au (bz (i := 7) wZ.nd rfl (Or.inl rfl) (aJ dC (pv 7) (bC (aj (aF eE Z3 T.inst boot_isinstance (aj (pv 0) (aj (BL T.c_Take) ak))) (aj (aF eE Z3 T.inst boot_isinstance (aj (pv 0) (aj (BL T.c_Need) ak))) ak)))))
   (au (xu (N := ["_law_one", "_law_sort"]) [none, some 2] (i := 8) wZ.nd rfl (Or.inl rfl) rfl Z5 (Mf (cR (aj aA (aj aA (aj aA (aj aA (aj aA (aj aA ak)))))))) (fun cl C fp s H => (bj (i := 0) (by decide +kernel : (["_law_one", "_law_sort"] : List Str).Nodup) rfl (Or.inl rfl))) (fun cl C fp s H => fL) (fun cl C fp s H => (bJ bw (pv 1) (pv 0) (aH _))))
   (au (bc (PW.pt (dw (cH (bF (aF eE Z3 T.inst boot_isinstance (aj (pv 0) (aj (BL T.c_Row) ak))))) (dw (aG (Ha (K := K) rfl hr.units) (pv 7) (pv 8) (aH _)) (eN (cH (bF (aU Abo Gbo hr4 (aj (pv 0) (aj (pv 1) ak))))))))) (az (aD fK)) aL)
   (au (bc (PW.pt (b8 (aG m8 (pv 2) aA (aH _)) (bZ (PW.pt (dw (cH (bF (aF bN Z3 T.inst boot_isinstance (aj (bY (pv 0) rfl) (aj (cz (v := .ty "str") Z3 T.t_str boot_str rfl) ak))))) (eN (aG m8 (bY (pv 0) rfl) (pv 3) (aH _)))))))) (az (aD fK)) aL)
   (au (bc (PW.pt (b8 (aG bw (pv 2) aA (aH _)) (bZ (PW.pt (dw (cH (bF (aF bN Z3 T.inst boot_isinstance (aj (bY (pv 0) rfl) (aj (cz (v := .ty "str") Z3 T.t_str boot_str rfl) ak))))) (eN (aG m8 (bY (pv 0) rfl) (pv 5) (aH _)))))))) (az (aD fK)) aL)
   (au (bc (aG je (pv 2) (cR (aj aA (aj aA (aj aA ak)))) Z3) (az (aD (cI (aF bN Z3 T.inst boot_isinstance (aj (bY (pv 0) rfl) (aj (cz (v := .ty "str") Z3 T.t_str boot_str rfl) ak))) (eH (bJ bw (bY (pv 0) rfl) (pv 4) (aH _)))))) aL)
   (az (aD (aU Abh Gbh hr3 (aj (bY (pv 0) rfl) (aj (pv 6) ak))))))))))))), ?_⟩
  obtain ⟨p, aa', ww', rfl, hp, hA, hW, htt⟩ := id rt
  obtain ⟨dx, fs, ha, hf⟩ := id ra
  have h5 := hg.so
  refine ⟨_, rfl, p, _, rfl, SqT.of hp, rfl, _, _, rfl, _, _, rfl, _, _, rfl, _, _, rfl, _, _, rfl, rfl, ?_⟩
  have ty : ∀ H', aB H H' -> nP K H' (.ref a) (.ref (C r.so)) := fun H' s => (T.fam.c r.so Z1).ty (s _ _ ha)
  have kt : ∀ j, j <= 6 -> kitOne K (.ref (C r.so)) (.ref (C j)) = some (jV r.so j) := fun j hj => T.fam.kit r.so j Z1 hj
  have kt6 : kitOne K (.ref (C r.so)) (.ref (C 6)) = some true := by rw [kt 6 Z0]; unfold jV; simp
  refine ⟨_, rfl, _, _, _, _, rfl, ty _ (aB.refl H), kt 0 Z0, _, rfl, _, _, _, _, rfl, ty _ (aB.refl H), kt 1 Z0, _, rfl, _, _, _, _, rfl, ty _ (aB.refl H), kt 2 Z0, _, rfl, _, _, _, _, rfl, ty _ (aB.refl H), kt 3 Z0, by show 4 <= sizeLine; decide, fun f1 hf1 => ?_⟩
  refine ⟨_, rfl, _, rfl, _, _, _, _, rfl, ty _ (aB.new hf1), kt 4 Z0, _, rfl, _, _, _, _, rfl, ty _ (aB.new hf1), kt 5 Z0, by show 2 <= sizeLine; decide, fun f2 hf2 => ?_⟩
  refine ⟨f1, f2, _, _, rfl, rfl, (aB.new hf2) _ _ ao, ao, by show 4 + 2 <= sizeLine; decide, fun f3 hf3 => ?_⟩
  refine ⟨by show 6 <= sizeLine; decide, fun t1 ht1 => ⟨t1, rfl, ⟨_, SqT.of ao⟩, Ec (xs := [V.str "let", V.str "deed", V.str "draw", V.str "late", V.str "take", V.str "need"]) (fun j => V.bl (jV r.so j)) (by show 6 <= sizeLine; decide) (SqT.of ao) (fun i x H' Q' hx sm k' => ?_) (fun H5 s5 d hd => ?_)⟩⟩
  ·obtain ⟨hi, rfl⟩ := J1 hx
   refine ⟨_, rfl, _, rfl, rfl, ?_⟩
   have k2 := k' H' (aB.refl _)
   rw [<- uH h5 hi] at k2
   exact k2
  have s05 := (((((aB.new hf1).put hf2).put hf3).put ht1).trans s5).put (o := .lst ((List.range 6).map fun j => V.bl (jV r.so j))) hd
  have hb1 := (aB.new (o := .lst ((List.range 6).map fun j => V.bl (jV r.so j))) hd) _ _ (s5 _ _ ((aB.new ht1) _ _ ao))
  refine ⟨_, rfl, _, _, _, _, rfl, ty _ s05, kt6, _, rfl, bA ?_⟩
  refine ⟨_, rfl, _, rfl, f3, d, rfl, rfl, Dy (bs := [jV r.so 0, jV r.so 1, jV r.so 2, jV r.so 3, jV r.so 4, jV r.so 5]) hb1 ao, _, rfl, bA ?_⟩
  refine ⟨_, rfl, _, rfl, a, l, _, lt, r, rfl, ra.same s05, rt.same s05, hg, fun H7 s7 => ⟨_, rfl, bA ?_⟩⟩
  have s07 : aB H H7 := s05.trans s7
  have ha7 := s07 _ _ ha
  have hf7 := hf.same s07
  have q7 : ∀ H', aB H7 H' -> Q (.bl true) H' := fun H' s => q H' (s07.trans s)
  clear hb1 s05
  obtain ⟨so, nn, aa, ww, tt⟩ := r
  have hc : so <= 5 := h5
  have h6 : tt.length <= 10 := le_trans hg.ts.hi Z0
  have cl := (T.fam.c so (le_trans hc Z0)).cl
  have n1 := T.fam.nn so (le_trans hc Z0)
  have n2 := T.fam.na so (le_trans hc Z0)
  have n3 := T.fam.nt so (le_trans hc Z0)
  by_cases h5' : so = 5
  ·subst h5'
   have dd := qW (i := 5) Z0
   refine ⟨_, rfl, rfl, _, rfl, mH (sT 5) (bA ?_)⟩
   refine ⟨_, rfl, rfl, _, rfl, aM (sF 5 4) (bA ?_)⟩
   refine ⟨_, rfl, by show 3 <= sizeLine; decide, fun t2 ht2 => ⟨t2, _, rfl, .inr (SqT.of ao), rfl, rfl, _, rfl, aM dd ?_⟩⟩
   have ha7 := (aB.new (o := .tup dal) ht2) _ _ ha7
   exact ⟨_, rfl, rdF ha7 cl n3 ((hf7.tm (.inr (.inr rfl))).1) ⟨_, rfl, l, lt, tt, rfl, (hf7.tm (.inr (.inr rfl))).2.same (aB.new ht2), ((htt (.inr (.inr rfl))).same s07).same (aB.new ht2), h6, fun H' s' => q7 H' ((aB.new ht2).trans s')⟩⟩
  have l5 : so < 5 := Nat.lt_of_le_of_ne hc h5'
  have f5 : decide (V.str (bT so) = V.str (bT 5)) = false := sF so 5 (by unfold jV; rw [decide_eq_false h5']; rfl) hc
  have nm7 := hf7.nm l5
  by_cases h4' : so = 4
  ·subst h4'
   have eA : aa = aa' := (hA (.inr (.inr rfl))).symm
   subst eA
   have eW : ww = ww' := (hW rfl).symm
   subst eW
   have n4 := T.fam.nw 4 Z0
   have w7 := hf7.wd rfl
   have dd := qW (i := 4) Z0
   refine ⟨_, rfl, rfl, _, rfl, kZ f5 ⟨_, rfl, rdF ha7 cl n1 (nm7) ⟨_, _, _, _, rfl, .str _, bW, _, rfl, bA ⟨_, rfl, rdF ha7 cl n1 (nm7) ⟨_, rfl, rfl, _, rfl, wA rfl ?_⟩⟩⟩⟩⟩
   refine ⟨_, rfl, rfl, _, rfl, bu (sT 4) ⟨_, rfl, rdF ha7 cl n4 (w7) ⟨_, _, _, _, rfl, .str _, bW, _, rfl, bA ⟨_, rfl, rdF ha7 cl n4 (w7) ⟨_, rfl, rfl, _, rfl, wA rfl ?_⟩⟩⟩⟩⟩
   refine ⟨_, rfl, by show 3 <= sizeLine; decide, fun t2 ht2 => ⟨t2, _, rfl, .inr (SqT.of ao), rfl, rfl, _, rfl, bu dd ?_⟩⟩
   have ha7 := (aB.new (o := .tup dal) ht2) _ _ ha7
   exact ⟨_, rfl, rdF ha7 cl n2 (hf7.ad (.inr (.inr rfl))) ⟨_, _, _, _, rfl, .str _, bW, _, rfl, jo ⟨_, rfl, rdF ha7 cl n2 (hf7.ad (.inr (.inr rfl))) ⟨_, rfl, rfl, by rw [decide_eq_true rfl]; exact q7 _ (aB.new ht2)⟩⟩⟩⟩
  have f4 : decide (V.str (bT so) = V.str (bT 4)) = false := sF so 4 (by unfold jV; rw [decide_eq_false h4']; rfl) hc
  refine ⟨_, rfl, rfl, _, rfl, kZ f5 ⟨_, rfl, rdF ha7 cl n1 (nm7) ⟨_, _, _, _, rfl, .str _, bW, _, rfl, bA ⟨_, rfl, rdF ha7 cl n1 (nm7) ⟨_, rfl, rfl, _, rfl, wA rfl ?_⟩⟩⟩⟩⟩
  refine ⟨_, rfl, rfl, _, rfl, aM f4 (bA ?_)⟩
  by_cases h23 : so = 2 \/ so = 3
  ·have dd : inV (V.str (bT so)) dal = true := by rw [qW hc]; rcases h23 with rfl | rfl <;> rfl
   have eA : aa = aa' := (hA (h23.elim .inl fun k => .inr (.inl k))).symm
   subst eA
   have a7 := hf7.ad (h23.elim .inl fun k => .inr (.inl k))
   refine ⟨_, rfl, by show 3 <= sizeLine; decide, fun t2 ht2 => ⟨t2, _, rfl, .inr (SqT.of ao), rfl, rfl, _, rfl, bu dd ?_⟩⟩
   have ha7 := (aB.new (o := .tup dal) ht2) _ _ ha7
   exact ⟨_, rfl, rdF ha7 cl n2 (a7) ⟨_, _, _, _, rfl, .str _, bW, _, rfl, jo ⟨_, rfl, rdF ha7 cl n2 (a7) ⟨_, rfl, rfl, by rw [decide_eq_true rfl]; exact q7 _ (aB.new ht2)⟩⟩⟩⟩
  ·have h01 : so = 0 \/ so = 1 := by omega
   have dd : inV (V.str (bT so)) dal = false := by rw [qW hc]; rcases h01 with rfl | rfl <;> rfl
   have t7 := hf7.tm (h01.elim .inl fun k => .inr (.inl k))
   refine ⟨_, rfl, by show 3 <= sizeLine; decide, fun t2 ht2 => ⟨t2, _, rfl, .inr (SqT.of ao), rfl, rfl, _, rfl, aM dd ?_⟩⟩
   have ha7 := (aB.new (o := .tup dal) ht2) _ _ ha7
   exact ⟨_, rfl, rdF ha7 cl n3 (t7.1) ⟨_, rfl, l, lt, tt, rfl, t7.2.same (aB.new ht2), ((htt (h01.elim .inl fun k => .inr (.inl k))).same s07).same (aB.new ht2), h6, fun H' s' => q7 H' ((aB.new ht2).trans s')⟩⟩
theorem fG (T : Tx K mg C) (F : Fun K "_law_is_name" "_law_is_name" gP f fd) : aO P w K mg base CX0 1 f fd jm lg := by
 refine F.oq zr fun _ _ _ _ H _ Q E hr h => ?_
 ·obtain ⟨z, rfl, hz, q⟩ := h
  refine ⟨_, QSs.h (au (nq PassesOwn.never rfl (yj (pv 0)) (bj (i := 1) zr.nd rfl (Or.inl rfl))
   (az (bc (aG xR (pv 1) aA Z3) (az (aD fK)) aL)))
   (az (aD (G3 Ca Ca aq (aF b7 Z3 T.len boot_len (aj (pv 0) ak)) aq)))), ?_⟩
  have hz' : z.length <= sizeLine := le_trans hz Z0
  refine ⟨_, rfl, z, rfl, ?_⟩
  refine JS (fun i σ H2 => ∃ v, σ = [some (.str z), v] /\ H2 = H /\ (z.cps.toList.take i).all inL = true) ⟨none, rfl, rfl, rfl⟩ ?_ ?_
  ·rintro i ch σ H2 hc ⟨v, rfl, rfl, hal⟩
   refine ⟨_, rfl, _, _, rfl, rfl, _, rfl, ?_⟩
   show if (!inL ch) = true then _ else _
   cases hi : inL ch with
   | false =>
    refine jo ?_
    have e : nmB z = false := by
     unfold nmB
     have : z.cps.toList.all inL = false := by
      rw [List.all_eq_false]
      exact ⟨ch, mem_of_getElem? hc, by rw [hi]; decide⟩
     rw [this, Bool.and_false]
    have q' := q H2 (aB.refl H2)
    rw [e] at q'
    exact q'
   | true =>
    refine bA ⟨_, rfl, rfl, ?_⟩
    rw [take_add_one, hc, List.all_append, hal]
    show (true && (inL ch && true)) = true
    rw [hi]; rfl
  ·rintro σ H2 ⟨v, rfl, rfl, hal⟩
   have hz2 : z.cps.size = z.cps.toList.length := by simp
   rw [hz2, take_length] at hal
   have q' := q H2 (aB.refl H2)
   unfold nmB at q'
   rw [hal, Bool.and_true] at q'
   refine ⟨_, rfl, _, rfl, hz', _, _, rfl, rfl, _, rfl, dm (fun h1 => ⟨_, _, rfl, rfl, ?_⟩) (fun h1 => ?_)⟩
   ·rw [decide_eq_true (show 1 <= z.length by omega), Bool.true_and] at q'
    have e : decide ((z.length : Int) <= 8) = decide (z.length <= 8) := by
     by_cases h : z.length <= 8
     ·rw [decide_eq_true h, decide_eq_true Z1]
     ·rw [decide_eq_false h, decide_eq_false Z1]
    rw [<- e] at q'
    exact q'
   ·rw [decide_eq_false (show ¬ 1 <= z.length by omega), Bool.false_and] at q'
    exact q'
theorem qt (T : Tx K mg C) (F : Fun K "_law_is_address" "_law_is_address" dF f fd) : aO P w K mg base CX0 2 f fd jy tV := by
 obtain ⟨fac, dac, Aac⟩ := T.aac
 have Gac : aO P w K mg base CX0 1 fac dac jm lg := fG T Aac.F
 refine F.oq rR fun _ _ _ _ H _ Q E hr h => ?_
 ·obtain ⟨z, rfl, hz, q⟩ := h
  unfold cF at q
  have hr1 : bh 1 _ := hr
  refine ⟨_, QSs.h (au (bz (i := 1) rR.nd rfl (Or.inl rfl) (dU plainAttrs_str slot_str_split type_str_split gW (pv 0) (aj aA ak)))
   (az (aD (cI (bJ Ca (aF aY Z3 T.len boot_len (aj (pv 1) ak)) aq (aH _)) (eH (aF (lw rfl) Z3 T.all boot_all (aj (dX (N := ["_law_name_here"]) [none] rfl Z5 (gG (pv 1)) (fun cl C fp s H => (bj (i := 0) (by decide +kernel : (["_law_name_here"] : List Str).Nodup) rfl (Or.inl rfl))) (fun cl C fp s H => fL) (fun cl C fp s H => (aU Aac Gac hr1 (aj (pv 0) ak)))) ak))))))), ?_⟩
  refine ⟨_, rfl, rfl, _, _, rfl, rfl, lV, le_trans (show z.length + 2 <= 6002 by omega) Z0, fun p hp => ?_⟩
  have hlen := gk z ("." : Str) (le_trans (show z.length + 2 <= 6002 by omega) Z0)
  refine ⟨_, rfl, p, _, rfl, .inl (SqL.of ao), _, _, rfl, rfl, _, rfl, dm (fun h1 => ?_) (fun h1 => ?_)⟩
  ·rw [length_map] at h1
   refine ⟨_, rfl, p, rfl, ⟨_, SqL.of ao⟩, ?_⟩
   refine jd (fun v => match v with | .str y => .bl (nmB y) | _ => .non) (by rw [length_map]; exact hlen) (SqL.of ao) (fun x H' Q' hx sm k' => ?_) (fun H' sm p2 hp2 => ?_)
   ·obtain ⟨y, hy, rfl⟩ := mem_map.mp hx
    exact ⟨_, rfl, y, rfl, le_trans (jc hy) hz, k'⟩
   ·refine ⟨p2, (Txt.split z ("." : Str)).map nmB, rfl, SqL.of (by rw [ao, map_map, map_map]; rfl), ?_⟩
    have e : (decide (((Txt.split z ("." : Str)).length : Int) <= ((3 : Nat) : Int)) && (Txt.split z ("." : Str)).all nmB) = ((Txt.split z ("." : Str)).map nmB).all id := by
     rw [decide_eq_true (show ((Txt.split z ("." : Str)).length : Int) <= ((3 : Nat) : Int) from h1), all_map]; rfl
    rw [e] at q
    exact q _ (((aB.new hp).trans sm).put hp2)
  ·rw [length_map] at h1
   have q' := q _ (aB.new (o := .lst ((Txt.split z ("." : Str)).map V.str)) hp)
   rw [decide_eq_false (show ¬ ((Txt.split z ("." : Str)).length : Int) <= ((3 : Nat) : Int) from h1)] at q'
   exact q'
theorem rC (T : Tx K mg C) (F : Fun K "_law_read_word" "_law_read_word" dZ f fd) : aO P w K mg base CX0 2 f fd lN Kq := by
 obtain ⟨fac, dac, Aac⟩ := T.aac
 have Gac : aO P w K mg base CX0 1 fac dac jm lg := fG T Aac.F
 refine F.oq gj fun _ _ _ _ H _ Q E hr h => ?_
 ·obtain ⟨z, sg, rfl, hz, q, qn⟩ := h
  have hr1 : bh 1 _ := hr
  refine ⟨_, QSs.h (au (bz (i := 2) gj.nd rfl (Or.inl rfl) (aF aY Z3 T.len boot_len (aj (dX (N := ["_law_one"]) [none] rfl Z5 (yj (pv 0)) (fun cl C fp s H => (bj (i := 0) (by decide +kernel : (["_law_one"] : List Str).Nodup) rfl (Or.inl rfl))) (fun cl C fp s H => (Ld (aG qT (pv 0) aA Z3))) (fun cl C fp s H => (pv 0))) ak)))
   (au (bc (PW.pt (b8 (aG m8 (pv 0) aA (aH _)) (bZ (aG bw (pv 2) (aF b7 Z3 T.len boot_len (aj (pv 0) ak)) (aH _))))) (au (bc (PW.pt (dw (aG jk (aF b7 Z3 T.len boot_len (aj (pv 0) ak)) aq (aH _)) (eN (PW.pt (b8 (aG bw (aX yo (pv 0) aq) aA (aH _)) (bZ (aG jk (aF b7 Z3 T.len boot_len (aj (pv 0) ak)) aq (aH _)))))))) (az (aD dM)) aL)
   (az (aD (cR (aj (pv 1) (aj aA (aj (bL p8 Z3 T.t_int boot_int (aj (pv 0) ak)) ak))))))) aL)
   (au (bz (i := 3) gj.nd rfl (Or.inl rfl) aA)
   (au (bc (aG bw (bB mz (pv 0) (bI (wF rF aq)) bH) aA (aH _)) (au (bz (i := 3) gj.nd rfl (Or.inl rfl) aA)
   (az (bz (i := 0) gj.nd rfl (Or.inl rfl) (bB mz (pv 0) bH (bI (wF rF aq)))))) aL)
   (au (bz (i := 4) gj.nd rfl (Or.inl rfl) (dU plainAttrs_str slot_str_split type_str_split gW (pv 0) (aj aA ak)))
   (au (bc (PW.pt (dw (aG jk (aF aY Z3 T.len boot_len (aj (pv 4) ak)) aq (aH _)) (eN (cH (bF (aF (lw rfl) Z3 T.all boot_all (aj (dX (N := ["_law_name_here"]) [none] rfl Z5 (gG (pv 4)) (fun cl C fp s H => (bj (i := 0) (by decide +kernel : (["_law_name_here"] : List Str).Nodup) rfl (Or.inl rfl))) (fun cl C fp s H => fL) (fun cl C fp s H => (aU Aac Gac hr1 (aj (pv 0) ak)))) ak))))))) (az (aD dM)) aL)
   (az (aD (cR (aj (pv 1) (aj (pv 3) (aj (bL jZ Z3 T.t_tuple boot_tuple (aj (pv 4) ak)) ak)))))))))))), ?_⟩
  have hz' : z.length <= sizeLine := le_trans hz Z0
  refine ⟨_, rfl, z, rfl, ?_⟩
  refine Ej inF (fun c => V.str ⟨#[c]⟩) hz' (fun c H' Q' sm k' => ?_) (fun c H' Q' hc sm k' => ?_) (fun H' sm p hp => ?_)
  ·exact ⟨_, rfl, _, _, rfl, rfl, _, rfl, k'⟩
  ·exact ⟨_, rfl, k' _ (aB.refl _)⟩
  refine ⟨p, _, rfl, .inl (SqL.of ao), ?_⟩
  have s1 := sm.put hp (o := .lst ((z.cps.toList.filter inF).map fun c => V.str ⟨#[c]⟩))
  generalize upd H' p (.lst ((z.cps.toList.filter inF).map fun c => V.str ⟨#[c]⟩)) = H1 at s1
  rw [length_map]
  refine ⟨_, rfl, rfl, _, rfl, ?_⟩
  by_cases e0 : z = ""
  ·have en : ir z = false := by rw [e0]; decide +kernel
   refine aM (by rw [e0]; rfl) (bA ?_)
   refine ⟨_, rfl, _, rfl, _, rfl, z, rfl, hz', rfl, _, rfl, ?_⟩
   cases ee : Txt.endswith z brk with
   | true =>
    refine bu (decide_eq_true (congrArg V.str (oA.mpr ee))) ?_
    obtain ⟨a, rfl⟩ := ends_app ee
    have hla : a.length + 2 <= 6000 := by rw [bO, iT] at hz; exact hz
    refine ⟨_, rfl, _, rfl, _, rfl, a ++ brk, rfl, hz', ?_⟩
    rw [tW a Z1]
    have la : a.length <= 6000 := by omega
    refine ⟨_, rfl, rfl, _, _, rfl, rfl, lV, le_trans (show a.length + 2 <= 6002 by omega) Z0, fun p2 hp2 => ?_⟩
    have hlen := gk a ("." : Str) (le_trans (show a.length + 2 <= 6002 by omega) Z0)
    have s2 := s1.put hp2 (o := .lst ((Txt.split a ("." : Str)).map V.str))
    have k2 : upd H1 p2 (.lst ((Txt.split a ("." : Str)).map V.str)) p2 = some (.lst ((Txt.split a ("." : Str)).map V.str)) := ao
    generalize upd H1 p2 (.lst ((Txt.split a ("." : Str)).map V.str)) = H2 at s2 k2
    refine ⟨_, rfl, p2, _, rfl, .inl (SqL.of k2), _, _, rfl, rfl, _, rfl, dm (fun h4 => jo ?_) (fun h4 => ?_)⟩
    ·rw [length_map] at h4
     have ep : cF 4 a = false := by unfold cF; rw [decide_eq_false Z1]; rfl
     exact qn (pN en ep) H2 s2
    rw [length_map] at h4
    refine ⟨_, rfl, p2, rfl, ⟨_, SqL.of k2⟩, ?_⟩
    refine jd (fun v => match v with | .str y => .bl (nmB y) | _ => .non) (by rw [length_map]; exact hlen) (SqL.of k2) (fun x H' Q' hx sm k' => ?_) (fun H3 s3 p3 hp3 => ?_)
    ·obtain ⟨y, hy, rfl⟩ := mem_map.mp hx
     exact ⟨_, rfl, y, rfl, le_trans (jc hy) la, k'⟩
    refine ⟨p3, (Txt.split a ("." : Str)).map nmB, rfl, SqL.of (by rw [ao, map_map, map_map]; rfl), _, rfl, ?_⟩
    have s4 := (s2.trans s3).put hp3 (o := .lst (((Txt.split a ("." : Str)).map V.str).map fun v => match v with | .str y => V.bl (nmB y) | _ => V.non))
    have k4 := (aB.new hp3 (o := .lst (((Txt.split a ("." : Str)).map V.str).map fun v => match v with | .str y => V.bl (nmB y) | _ => V.non))) _ _ (s3 _ _ k2)
    have ea : ((Txt.split a ("." : Str)).map nmB).all id = cF 4 a := by
     unfold cF
     rw [decide_eq_true (show ((Txt.split a ("." : Str)).length : Int) <= ((4 : Nat) : Int) by omega), all_map]; rfl
    cases ep : cF 4 a with
    | false => exact kZ (ea.trans ep) (qn (pN en ep) _ s4)
    | true =>
     obtain ⟨ys, g, ey⟩ := Bu.mp ep
     refine mH (ea.trans ep) ⟨_, rfl, _, rfl, _, rfl, p2, _, rfl, .inl ⟨SqL.of k4, fun r hr' => ⟨by show 3 <= sizeLine; decide, fun p5 hp5 => ?_⟩⟩⟩
     have hsp : Txt.split a ("." : Str) = ys := by rw [ey]; exact cC ys g.lo g.nm
     exact q (.nms true ys) g (by rw [ey]; rfl) _ _ ((s4.put hr').put hp5) ⟨p5, _, rfl, ao, r, rfl, (aB.new hp5) _ _ (by rw [ao, hsp])⟩
   | false =>
    refine aM (decide_eq_false fun k => by have := oA.mp (V.str.inj k); rw [ee] at this; cases this) ?_
    have la : z.length <= 6000 := by omega
    refine ⟨_, rfl, rfl, _, _, rfl, rfl, lV, le_trans (show z.length + 2 <= 6002 by omega) Z0, fun p2 hp2 => ?_⟩
    have hlen := gk z ("." : Str) (le_trans (show z.length + 2 <= 6002 by omega) Z0)
    have s2 := s1.put hp2 (o := .lst ((Txt.split z ("." : Str)).map V.str))
    have k2 : upd H1 p2 (.lst ((Txt.split z ("." : Str)).map V.str)) p2 = some (.lst ((Txt.split z ("." : Str)).map V.str)) := ao
    generalize upd H1 p2 (.lst ((Txt.split z ("." : Str)).map V.str)) = H2 at s2 k2
    refine ⟨_, rfl, p2, _, rfl, .inl (SqL.of k2), _, _, rfl, rfl, _, rfl, dm (fun h4 => jo ?_) (fun h4 => ?_)⟩
    ·rw [length_map] at h4
     have ep : cF 4 z = false := by unfold cF; rw [decide_eq_false Z1]; rfl
     exact qn (lZ en ee ep) H2 s2
    rw [length_map] at h4
    refine ⟨_, rfl, p2, rfl, ⟨_, SqL.of k2⟩, ?_⟩
    refine jd (fun v => match v with | .str y => .bl (nmB y) | _ => .non) (by rw [length_map]; exact hlen) (SqL.of k2) (fun x H' Q' hx sm k' => ?_) (fun H3 s3 p3 hp3 => ?_)
    ·obtain ⟨y, hy, rfl⟩ := mem_map.mp hx
     exact ⟨_, rfl, y, rfl, le_trans (jc hy) la, k'⟩
    refine ⟨p3, (Txt.split z ("." : Str)).map nmB, rfl, SqL.of (by rw [ao, map_map, map_map]; rfl), _, rfl, ?_⟩
    have s4 := (s2.trans s3).put hp3 (o := .lst (((Txt.split z ("." : Str)).map V.str).map fun v => match v with | .str y => V.bl (nmB y) | _ => V.non))
    have k4 := (aB.new hp3 (o := .lst (((Txt.split z ("." : Str)).map V.str).map fun v => match v with | .str y => V.bl (nmB y) | _ => V.non))) _ _ (s3 _ _ k2)
    have ea : ((Txt.split z ("." : Str)).map nmB).all id = cF 4 z := by
     unfold cF
     rw [decide_eq_true (show ((Txt.split z ("." : Str)).length : Int) <= ((4 : Nat) : Int) by omega), all_map]; rfl
    cases ep : cF 4 z with
    | false => exact kZ (ea.trans ep) (qn (lZ en ee ep) _ s4)
    | true =>
     obtain ⟨ys, g, ey⟩ := Bu.mp ep
     refine mH (ea.trans ep) ⟨_, rfl, _, rfl, _, rfl, p2, _, rfl, .inl ⟨SqL.of k4, fun r hr' => ⟨by show 3 <= sizeLine; decide, fun p5 hp5 => ?_⟩⟩⟩
     have hsp : Txt.split z ("." : Str) = ys := by rw [ey]; exact cC ys g.lo g.nm
     exact q (.nms false ys) g (by rw [ey]; rfl) _ _ ((s4.put hr').put hp5) ⟨p5, _, rfl, ao, r, rfl, (aB.new hp5) _ _ (by rw [ao, hsp])⟩
  ·refine bu (by rw [decide_eq_false fun k => e0 (V.str.inj k)]; rfl) ?_
   refine ⟨_, rfl, _, rfl, z, rfl, hz', rfl, _, rfl, ?_⟩
   by_cases ef : (z.cps.toList.filter inF).length = z.length
   ·have hall : z.cps.toList.all inF = true := FT (by rw [ef, bQ])
    refine bu (decide_eq_true (by rw [ef])) ?_
    refine ⟨_, rfl, z, rfl, hz', _, _, rfl, rfl, _, rfl, dm (fun h20 => jo ?_) (fun h20 => ?_)⟩
    ·exact qn (fun r => by have := De hall r; unfold ir at this; rw [decide_eq_false (show ¬ z.length <= 20 by omega)] at this; simp at this) H1 s1
    cases hcs : z.cps.toList with
    | nil => exact absurd (dR (by rw [hcs]; decide +kernel)) e0
    | cons c0 cr =>
    have hat : atI z.cps.toList 0 = some c0 := cM (j := 0) (by rw [hcs]; rfl)
    have hl1 : 1 <= z.length := by rw [bQ, hcs, length_cons]; omega
    have hnum : ir z = !(decide (c0 = 48) && !decide (z = zero)) := by
     unfold ir
     rw [decide_eq_true hl1, decide_eq_true (show z.length <= 20 by omega), hall, hcs]
     have : decide ((c0 :: cr).head? = some 48) = decide (c0 = 48) := by
      by_cases h : c0 = 48
      ·rw [decide_eq_true h, decide_eq_true (by rw [h]; rfl)]
      ·rw [decide_eq_false h, decide_eq_false (fun z => h (by simpa using z))]
     rw [this, Bool.and_true]; rfl
    refine ⟨_, rfl, z, _, c0, rfl, rfl, hz', hat, rfl, _, rfl, dm (fun h3 => ?_) (fun h3 => ?_)⟩
    ·have hc : c0 = 48 := by
      have e : (⟨#[c0]⟩ : Str) = ("0" : Str) := V.str.inj h3
      have e2 := congrArg (fun x : Str => x.cps.toList) e
      have e3 : (("0" : Str)).cps.toList = [48] := by decide +kernel
      rw [e3] at e2
      simpa using e2
     refine ⟨_, rfl, z, rfl, hz', _, _, rfl, rfl, _, rfl, dm (fun h1 => ?_) (fun h1 => ?_)⟩
     ·have hne : ¬ z = zero := fun k => by rw [k] at h1; revert h1; decide +kernel
      have en : ir z = false := by rw [hnum, decide_eq_true hc, decide_eq_false hne]; rfl
      exact qn (fun r => by rw [De hall r] at en; cases en) H1 s1
     ·have hz0 : z = zero := dR (by
       rw [hcs, ue, hc]
       have : cr.length = 0 := by have := bQ z; rw [hcs, length_cons] at this; omega
       rw [List.length_eq_zero_iff.mp this])
      have en : ir z = true := by rw [hnum, hz0, decide_eq_true rfl, Bool.not_true, Bool.and_false]; rfl
      obtain ⟨m, hm, ez⟩ := vq en
      obtain ⟨n1, n2, n3, n4⟩ := iK hm
      refine ⟨_, rfl, _, rfl, z, _, rfl, by rw [ez]; exact n4, by rw [ez]; omega, by show 3 <= sizeLine; decide, fun p5 hp5 => ?_⟩
      exact q (.num m) hm ez _ _ (s1.put hp5) ⟨p5, _, rfl, ao, rfl⟩
    ·have hc : ¬ c0 = 48 := fun e => h3 (by subst e; exact congrArg V.str (dR Z4))
     have en : ir z = true := by rw [hnum, decide_eq_false hc]; rfl
     obtain ⟨m, hm, ez⟩ := vq en
     obtain ⟨n1, n2, n3, n4⟩ := iK hm
     refine ⟨_, rfl, _, rfl, z, _, rfl, by rw [ez]; exact n4, by rw [ez]; omega, by show 3 <= sizeLine; decide, fun p5 hp5 => ?_⟩
     exact q (.num m) hm ez _ _ (s1.put hp5) ⟨p5, _, rfl, ao, rfl⟩
   ·have hall : z.cps.toList.all inF = false := Hq (by rw [<- bQ]; exact ef)
    have en : ir z = false := by unfold ir; rw [hall, Bool.and_false]
    refine aM (decide_eq_false fun k => ef (by have := V.int.inj k; omega)) ?_
    refine ⟨_, rfl, _, rfl, _, rfl, z, rfl, hz', rfl, _, rfl, ?_⟩
    cases ee : Txt.endswith z brk with
    | true =>
     refine bu (decide_eq_true (congrArg V.str (oA.mpr ee))) ?_
     obtain ⟨a, rfl⟩ := ends_app ee
     have hla : a.length + 2 <= 6000 := by rw [bO, iT] at hz; exact hz
     refine ⟨_, rfl, _, rfl, _, rfl, a ++ brk, rfl, hz', ?_⟩
     rw [tW a Z1]
     have la : a.length <= 6000 := by omega
     refine ⟨_, rfl, rfl, _, _, rfl, rfl, lV, le_trans (show a.length + 2 <= 6002 by omega) Z0, fun p2 hp2 => ?_⟩
     have hlen := gk a ("." : Str) (le_trans (show a.length + 2 <= 6002 by omega) Z0)
     have s2 := s1.put hp2 (o := .lst ((Txt.split a ("." : Str)).map V.str))
     have k2 : upd H1 p2 (.lst ((Txt.split a ("." : Str)).map V.str)) p2 = some (.lst ((Txt.split a ("." : Str)).map V.str)) := ao
     generalize upd H1 p2 (.lst ((Txt.split a ("." : Str)).map V.str)) = H2 at s2 k2
     refine ⟨_, rfl, p2, _, rfl, .inl (SqL.of k2), _, _, rfl, rfl, _, rfl, dm (fun h4 => jo ?_) (fun h4 => ?_)⟩
     ·rw [length_map] at h4
      have ep : cF 4 a = false := by unfold cF; rw [decide_eq_false Z1]; rfl
      exact qn (pN en ep) H2 s2
     rw [length_map] at h4
     refine ⟨_, rfl, p2, rfl, ⟨_, SqL.of k2⟩, ?_⟩
     refine jd (fun v => match v with | .str y => .bl (nmB y) | _ => .non) (by rw [length_map]; exact hlen) (SqL.of k2) (fun x H' Q' hx sm k' => ?_) (fun H3 s3 p3 hp3 => ?_)
     ·obtain ⟨y, hy, rfl⟩ := mem_map.mp hx
      exact ⟨_, rfl, y, rfl, le_trans (jc hy) la, k'⟩
     refine ⟨p3, (Txt.split a ("." : Str)).map nmB, rfl, SqL.of (by rw [ao, map_map, map_map]; rfl), _, rfl, ?_⟩
     have s4 := (s2.trans s3).put hp3 (o := .lst (((Txt.split a ("." : Str)).map V.str).map fun v => match v with | .str y => V.bl (nmB y) | _ => V.non))
     have k4 := (aB.new hp3 (o := .lst (((Txt.split a ("." : Str)).map V.str).map fun v => match v with | .str y => V.bl (nmB y) | _ => V.non))) _ _ (s3 _ _ k2)
     have ea : ((Txt.split a ("." : Str)).map nmB).all id = cF 4 a := by
      unfold cF
      rw [decide_eq_true (show ((Txt.split a ("." : Str)).length : Int) <= ((4 : Nat) : Int) by omega), all_map]; rfl
     cases ep : cF 4 a with
     | false => exact kZ (ea.trans ep) (qn (pN en ep) _ s4)
     | true =>
      obtain ⟨ys, g, ey⟩ := Bu.mp ep
      refine mH (ea.trans ep) ⟨_, rfl, _, rfl, _, rfl, p2, _, rfl, .inl ⟨SqL.of k4, fun r hr' => ⟨by show 3 <= sizeLine; decide, fun p5 hp5 => ?_⟩⟩⟩
      have hsp : Txt.split a ("." : Str) = ys := by rw [ey]; exact cC ys g.lo g.nm
      exact q (.nms true ys) g (by rw [ey]; rfl) _ _ ((s4.put hr').put hp5) ⟨p5, _, rfl, ao, r, rfl, (aB.new hp5) _ _ (by rw [ao, hsp])⟩
    | false =>
     refine aM (decide_eq_false fun k => by have := oA.mp (V.str.inj k); rw [ee] at this; cases this) ?_
     have la : z.length <= 6000 := by omega
     refine ⟨_, rfl, rfl, _, _, rfl, rfl, lV, le_trans (show z.length + 2 <= 6002 by omega) Z0, fun p2 hp2 => ?_⟩
     have hlen := gk z ("." : Str) (le_trans (show z.length + 2 <= 6002 by omega) Z0)
     have s2 := s1.put hp2 (o := .lst ((Txt.split z ("." : Str)).map V.str))
     have k2 : upd H1 p2 (.lst ((Txt.split z ("." : Str)).map V.str)) p2 = some (.lst ((Txt.split z ("." : Str)).map V.str)) := ao
     generalize upd H1 p2 (.lst ((Txt.split z ("." : Str)).map V.str)) = H2 at s2 k2
     refine ⟨_, rfl, p2, _, rfl, .inl (SqL.of k2), _, _, rfl, rfl, _, rfl, dm (fun h4 => jo ?_) (fun h4 => ?_)⟩
     ·rw [length_map] at h4
      have ep : cF 4 z = false := by unfold cF; rw [decide_eq_false Z1]; rfl
      exact qn (lZ en ee ep) H2 s2
     rw [length_map] at h4
     refine ⟨_, rfl, p2, rfl, ⟨_, SqL.of k2⟩, ?_⟩
     refine jd (fun v => match v with | .str y => .bl (nmB y) | _ => .non) (by rw [length_map]; exact hlen) (SqL.of k2) (fun x H' Q' hx sm k' => ?_) (fun H3 s3 p3 hp3 => ?_)
     ·obtain ⟨y, hy, rfl⟩ := mem_map.mp hx
      exact ⟨_, rfl, y, rfl, le_trans (jc hy) la, k'⟩
     refine ⟨p3, (Txt.split z ("." : Str)).map nmB, rfl, SqL.of (by rw [ao, map_map, map_map]; rfl), _, rfl, ?_⟩
     have s4 := (s2.trans s3).put hp3 (o := .lst (((Txt.split z ("." : Str)).map V.str).map fun v => match v with | .str y => V.bl (nmB y) | _ => V.non))
     have k4 := (aB.new hp3 (o := .lst (((Txt.split z ("." : Str)).map V.str).map fun v => match v with | .str y => V.bl (nmB y) | _ => V.non))) _ _ (s3 _ _ k2)
     have ea : ((Txt.split z ("." : Str)).map nmB).all id = cF 4 z := by
      unfold cF
      rw [decide_eq_true (show ((Txt.split z ("." : Str)).length : Int) <= ((4 : Nat) : Int) by omega), all_map]; rfl
     cases ep : cF 4 z with
     | false => exact kZ (ea.trans ep) (qn (lZ en ee ep) _ s4)
     | true =>
      obtain ⟨ys, g, ey⟩ := Bu.mp ep
      refine mH (ea.trans ep) ⟨_, rfl, _, rfl, _, rfl, p2, _, rfl, .inl ⟨SqL.of k4, fun r hr' => ⟨by show 3 <= sizeLine; decide, fun p5 hp5 => ?_⟩⟩⟩
      have hsp : Txt.split z ("." : Str) = ys := by rw [ey]; exact cC ys g.lo g.nm
      exact q (.nms false ys) g (by rw [ey]; rfl) _ _ ((s4.put hr').put hp5) ⟨p5, _, rfl, ao, r, rfl, (aB.new hp5) _ _ (by rw [ao, hsp])⟩
theorem rT (T : Tx K mg C) (F : Fun K "_law_read" "_law_read" mF f fd) : aO P w K mg base CX0 3 f fd uK Fo := by
 obtain ⟨fbn, dbn, Abn⟩ := T.abn
 have Gbn : aO P w K mg base CX0 2 fbn dbn lN Kq := rC T Abn.F
 refine F.oq xF fun _ _ _ _ H _ Q E hr h => ?_
 ·obtain ⟨l, ws, rfl, hl, hmem, hlen, q, qn⟩ := h
  have hr2 : bh 2 _ := hr
  refine ⟨_, QSs.h (au (bc (PW.pt (dw (aG jk (aF aY Z3 T.len boot_len (aj (pv 0) ak)) aq (aH _)) (eN (aG bw (aJ fP (aF aY Z3 T.len boot_len (aj (pv 0) ak)) aq) aq (aH _))))) (az (aD dM)) aL)
   (au (bz (i := 1) xF.nd rfl (Or.inl rfl) (bC ak))
   (au (nq PassesOwn.never rfl (wg Z3 T.range (aj aq (aj (aF aY Z3 T.len boot_len (aj (pv 0) ak)) (aj aq ak)))) (bj (i := 2) xF.nd rfl (Or.inl rfl))
   (au (bc (PW.pt (b8 (aG jk (pv 2) aq (aH _)) (bZ (aG xW (aX aP (pv 0) (aJ qQ (pv 2) aq)) (cR (aj aA (aj aA ak))) Z3)))) (az (aD dM)) aL)
   (au (bz (i := 3) xF.nd rfl (Or.inl rfl) (aU Abn Gbn hr2 (aj (aX aP (pv 0) (pv 2)) (aj (aX aP (bC (aj aq (aj (wF rF aq) ak))) (bL eX Z3 T.t_int boot_int (aj (cI (bJ jk (pv 2) aq (aH _)) (eH (bJ bw (aX aP (pv 0) (aJ qQ (pv 2) aq)) aA (aH _)))) ak))) ak))))
   (au (bc (aG yE (pv 3) dM (aH _)) (az (aD dM)) aL)
   (az (jL (dU plainAttrs_list PySem.F.slot_list_append PySem.F.type_list_append lu (pv 1) (aj (pv 3) ak))))))))
   (az (aD (pv 1)))))), ?_⟩
  refine ⟨_, rfl, l, _, rfl, .inl (SqL.of hl), _, _, rfl, rfl, _, rfl, dm (fun h11 => jo ?_) (fun h11 => ?_)⟩
  ·rw [length_map] at h11
   exact qn (fun r => by have := (mJ r).2; omega) H (aB.refl H)
  rw [length_map] at h11
  refine ⟨_, rfl, l, _, rfl, .inl (SqL.of hl), _, _, rfl, rfl, (by show (0 : Int) < 2; decide), rfl, _, rfl, fX (fun h => ?_) (fun ho => ?_)⟩
  ·rw [length_map] at h
   exact qn (fun r => by have := (mJ r).1; omega) H (aB.refl H)
  rw [length_map] at ho
  obtain ⟨k, hk, hk5⟩ : ∃ k, ws.length = 2 * k + 1 /\ k <= 5 := ⟨ws.length / 2, Z1, Z1⟩
  refine ⟨by show 0 <= sizeLine; decide, fun L hL => ?_⟩
  have hsize : Builtin.Range.rangeSize 0 ((ws.map V.str).length : Int) 2 = ((k + 1 : Nat) : Int) := by
   rw [length_map, hk]
   unfold Builtin.Range.rangeSize
   rw [if_pos Z0]
   split <;> omega
  refine ⟨_, rfl, l, _, rfl, .inl (SqL.of ((aB.new hL) _ _ hl)), 0, _, 2, rfl, Z0, Z0, ?_, by rw [hsize]; omega, ?_⟩
  ·rw [length_map]
   exact BK Z1
  rw [hsize, Int.toNat_natCast]
  refine uR (fun i σ H' => ∃ v2 v3 xs ts, σ = [some (.ref l), some (.ref L), v2, v3] /\ aB H H' /\ H' L = some (.lst xs) /\ xs.length = ts.length /\ ((i = 0 /\ ts = []) \/ ∃ j, i = j + 1 /\ yD ws j ts) /\ ∀ (j : Nat) x, xs[j]? = some x -> ∃ t, ts[j]? = some t /\ eY H' x t)
   ⟨none, none, [], [], rfl, aB.new hL, ao, rfl, .inl ⟨rfl, rfl⟩, fun j x hj => by simp at hj⟩ ?_ ?_
  ·rintro i σ H3 hi ⟨v2, v3, xs, ts, rfl, sm, h3L, hxl, rd, hx⟩
   have hw2 : ws[2 * i]? = some (ws[2 * i]'Z1) := getElem?_eq_getElem Z1
   generalize ws[2 * i]'Z1 = w2 at hw2
   have hl3 : H3 l = some (.lst (ws.map V.str)) := sm _ _ hl
   have a2 : atI (ws.map V.str) (0 + (i : Nat) * 2) = some (V.str w2) := by
    have := cM (xs := ws.map V.str) (j := 2 * i) (v := V.str w2) (by rw [getElem?_map, hw2]; rfl)
    rwa [show (((2 * i : Nat)) : Int) = 0 + (i : Nat) * 2 from by omega] at this
   refine ⟨_, rfl, _, _, rfl, rfl, _, rfl, ?_⟩
   rcases rd with ⟨rfl, rfl⟩ | ⟨j, rfl, rd⟩
   ·refine aM Z0 (bA ?_)
    refine ⟨_, rfl, _, rfl, l, _, _, _, rfl, rfl, SqL.of hl3, a2, _, rfl, by show 2 <= sizeLine; decide, fun p1 hp1 => ?_⟩
    refine ⟨_, rfl, _, _, rfl, rfl, _, rfl, aM Z0 ?_⟩
    refine .inr ⟨_, rfl, p1, _, _, V.int 1, rfl, rfl, SqL.of ao, rfl, ?_⟩
    have s4 := sm.put hp1 (o := .lst [V.int 1, V.int (-1)])
    refine ⟨w2, 1, rfl, hmem w2 (mem_of_getElem? hw2), fun th g e v H5 s5 hv => ?_, fun b H5 s5 => ?_⟩
    ·obtain ⟨pp, xx, rfl, e1, e2⟩ := id hv
     have s35 : aB H H5 := s4.trans s5
     have h5L : H5 L = some (.lst xs) := s5 _ _ ((aB.new hp1) _ _ h3L)
     refine ⟨_, rfl, rfl, _, rfl, aM (decide_eq_false Z7) ?_⟩
     refine ⟨_, rfl, .inl ⟨rfl, _, SqL.of h5L⟩, _, rfl, L, _, _, rfl, rfl, h5L, lt_of_lt_of_le (show xs.length < 1000 by rw [hxl]; decide) cX, ?_⟩
     have hx0 : xs = [] := List.length_eq_zero_iff.mp hxl
     subst hx0
     refine ⟨_, _, [V.ref pp], [⟨1, th⟩], rfl, s35.over hL, ao, rfl, .inr ⟨0, rfl, .first g (by rw [<- e]; exact hw2)⟩, fun j x hj => ?_⟩
     cases j with
     | zero => cases hj; exact ⟨_, rfl, eY.upd hv h5L⟩
     | succ j => simp at hj
    ·refine ⟨_, rfl, rfl, _, rfl, bu (decide_eq_true rfl) ?_⟩
     exact qn (fun r => b (lB r (i := 0) hw2)) H5 (s4.trans s5)
   ·refine bu (decide_eq_true Z1) ?_
    have hw1 : ws[2 * j + 1]? = some (ws[2 * j + 1]'Z1) := getElem?_eq_getElem Z1
    generalize ws[2 * j + 1]'Z1 = w1 at hw1
    have a1 : atI (ws.map V.str) (0 + ((j + 1 : Nat) : Int) * 2 - 1) = some (V.str w1) := by
     have := cM (xs := ws.map V.str) (j := 2 * j + 1) (v := V.str w1) (by rw [getElem?_map, hw1]; rfl)
     rwa [show (((2 * j + 1 : Nat)) : Int) = 0 + ((j + 1 : Nat) : Int) * 2 - 1 from by omega] at this
    refine ⟨_, rfl, _, rfl, _, _, rfl, rfl, l, _, _, _, rfl, rfl, SqL.of hl3, a1, by show 2 <= sizeLine; decide, fun p1 hp1 => ?_⟩
    have s4 := sm.put hp1 (o := .tup [V.str "+", V.str "-"])
    refine ⟨p1, _, rfl, .inr (SqT.of ao), rfl, rfl, _, rfl, ?_⟩
    by_cases ew : w1 = "+" \/ w1 = "-"
    ·have ei : (!inV (V.str w1) [V.str "+", V.str "-"]) = false := by rcases ew with k | k <;> rw [k] <;> decide +kernel
     refine aM ei ?_
     have k1 := (aB.new hp1 (o := .tup [V.str "+", V.str "-"])) _ _ h3L
     have hl4 := (aB.new hp1 (o := .tup [V.str "+", V.str "-"])) _ _ hl3
     have sn := aB.new hp1 (o := .tup [V.str "+", V.str "-"])
     generalize upd H3 p1 (.tup [V.str "+", V.str "-"]) = H4 at s4 k1 hl4 sn
     refine ⟨_, rfl, _, rfl, l, _, _, _, rfl, rfl, SqL.of hl4, a2, _, rfl, by show 2 <= sizeLine; decide, fun p2 hp2 => ?_⟩
     have hl5 := (aB.new hp2 (o := .lst [V.int 1, V.int (-1)])) _ _ hl4
     refine ⟨_, rfl, _, _, rfl, rfl, _, rfl, bu (decide_eq_true Z1) ?_⟩
     refine ⟨_, rfl, _, rfl, _, _, rfl, rfl, l, _, _, _, rfl, rfl, SqL.of hl5, a1, rfl, ?_⟩
     have hs : ∃ s : Int, (s = 1 \/ s = -1) /\ w1 = sgw s /\ atI [V.int 1, V.int (-1)] (if decide (V.str w1 = V.str "-") = true then 1 else 0) = some (V.int s) := by
      rcases ew with k | k
      ·exact ⟨1, .inl rfl, k, by rw [k]; decide +kernel⟩
      ·exact ⟨-1, .inr rfl, k, by rw [k]; decide +kernel⟩
     obtain ⟨s, hs1, hs2, hs3⟩ := hs
     refine .inr ⟨_, rfl, p2, _, _, V.int s, rfl, rfl, SqL.of ao, hs3, ?_⟩
     have s6 := s4.put hp2 (o := .lst [V.int 1, V.int (-1)])
     refine ⟨w2, s, rfl, hmem w2 (mem_of_getElem? hw2), fun th g e v H5 s5 hv => ?_, fun b H5 s5 => ?_⟩
     ·obtain ⟨pp, xx, rfl, e1, e2⟩ := id hv
      have s35 : aB H H5 := s6.trans s5
      have h5L : H5 L = some (.lst xs) := s5 _ _ ((aB.new hp2) _ _ k1)
      have sx : aB H3 H5 := sn.trans ((aB.new hp2).trans s5)
      have tl := rd.lo
      refine ⟨_, rfl, rfl, _, rfl, aM (decide_eq_false Z7) ?_⟩
      refine ⟨_, rfl, .inl ⟨rfl, _, SqL.of h5L⟩, _, rfl, L, _, _, rfl, rfl, h5L, lt_of_lt_of_le (show xs.length < 1000 by omega) cX, ?_⟩
      refine ⟨_, _, xs ++ [V.ref pp], ts ++ [⟨s, th⟩], rfl, s35.over hL, ao, by rw [length_append, length_append, hxl]; rfl, .inr ⟨j + 1, rfl, rd.next hs1 g (by rw [hw1, hs2]) (by rw [show 2 * j + 2 = 2 * (j + 1) from by omega, hw2, e])⟩, fun j' x hj => ?_⟩
      by_cases hjx : j' < xs.length
      ·rw [getElem?_append_left hjx] at hj
       obtain ⟨t, ht, tm⟩ := hx j' x hj
       exact ⟨t, by rw [getElem?_append_left Z1]; exact ht, (tm.same sx).upd h5L⟩
      ·rw [getElem?_append_right Z1] at hj
       have hj0 : j' = xs.length := by
        cases hh : j' - xs.length with
        | zero => omega
        | succ k => rw [hh] at hj; simp at hj
       subst hj0
       rw [sub_self] at hj
       have : V.ref pp = x := by simpa using hj
       subst this
       exact ⟨_, by rw [getElem?_append_right Z1, hxl, sub_self]; rfl, eY.upd hv h5L⟩
     ·refine ⟨_, rfl, rfl, _, rfl, bu (decide_eq_true rfl) ?_⟩
      exact qn (fun r => b (lB r (i := j + 1) hw2)) H5 (s6.trans s5)
    ·have ei : (!inV (V.str w1) [V.str "+", V.str "-"]) = true := by
      have n1 : ((("+" : Str)) == w1) = false := beq_eq_false_iff_ne.mpr fun k => ew (.inl k.symm)
      have n2 : ((("-" : Str)) == w1) = false := beq_eq_false_iff_ne.mpr fun k => ew (.inr k.symm)
      show (!((("+" : Str) == w1) || ((("-" : Str) == w1) || false))) = true
      rw [n1, n2]; rfl
     refine bu ei ?_
     exact qn (fun r => by
      obtain ⟨s, hs, k⟩ := Dl r hw1
      rcases hs with rfl | rfl
      ·exact ew (.inl k)
      ·exact ew (.inr k)) _ s4
  ·rintro σ H3 ⟨v2, v3, xs, ts, rfl, sm, h3L, hxl, rd, hx⟩
   rcases rd with ⟨z, _⟩ | ⟨j, ej, rd⟩
   ·cases z
   ·obtain rfl : j = k := by omega
    obtain ⟨gs, ew⟩ := rd.all hk hk5
    exact ⟨_, rfl, q ts gs ew L H3 hL sm ⟨xs, h3L, hxl, hx⟩⟩
theorem rA (T : Tx K mg C) (F : Fun K "_law_read_told" "_law_read_told" dW f fd) : aO P w K mg base CX0 4 f fd mX J3 := by
 obtain ⟨fah, dah, Aah⟩ := T.aah
 have Gah : aO P w K mg base CX0 3 fah dah uK Fo := rT T Aah.F
 obtain ⟨fac, dac, Aac⟩ := T.aac
 have Gac : aO P w K mg base CX0 1 fac dac jm lg := fG T Aac.F
 refine F.oq uB fun _ _ _ _ H _ Q E hr h => ?_
 ·obtain ⟨l, ws, rfl, hl, hw, h3, h01, q, qn⟩ := h
  have hr1 : bh 1 _ := hr.mono Z0
  have hr3 : bh 3 _ := hr
  refine ⟨_, QSs.h (au (bz (i := 1) uB.nd rfl (Or.inl rfl) (aU Aah Gah hr3 (aj (bB cB (pv 0) (bI aq) bH) ak)))
   (au (bc (PW.pt (dw (aG m8 (aX aP (pv 0) aq) aA (aH _)) (dw (cH (bF (aU Aac Gac hr1 (aj (aX aP (pv 0) aq) ak)))) (eN (aG yE (pv 1) dM (aH _)))))) (az (aD dM)) aL)
   (au (bc (PW.pt (b8 (aG bw (aX aP (pv 0) aq) aA (aH _)) (bZ (aG je aA (dX (N := ["_law_term_here"]) [none] rfl Z5 (gG (pv 1)) (fun cl C fp s H => (bj (i := 0) (by decide +kernel : (["_law_term_here"] : List Str).Nodup) rfl (Or.inl rfl))) (fun cl C fp s H => fL) (fun cl C fp s H => (aX (Ck (K := K) rfl) (pv 0) aq))) Z3)))) (az (aD dM)) aL)
   (az (aD (cR (aj (aX aP (pv 0) aq) (aj (aX aP (pv 0) aq) (aj aA (aj aA (aj (pv 1) ak))))))))))), ?_⟩
  have ec : jj (ws.map V.str) (some ((3 : Nat) : Int)) none = (ws.drop 3).map V.str := by rw [pP, <- map_drop]
  have hd := hw.drop 3
  refine ⟨_, rfl, _, rfl, l, _, rfl, SqL.of hl, fun p hp => ?_⟩
  have s1 := aB.new hp (o := .lst ((ws.drop 3).map V.str))
  refine ⟨p, ws.drop 3, rfl, ao.trans (congrArg (fun z => some (HO.lst z)) ec), fun w hw' => hw.len (List.mem_of_mem_drop hw'), Z1, fun ts g et L H2 hL s2 htm => ?_, fun nr H2 s2 => ?_⟩
  ·have hl2 := s2 _ _ ((aB.new hp) _ _ hl)
   have s12 := (aB.new hp).trans s2
   refine ⟨_, rfl, l, _, _, _, rfl, rfl, SqL.of hl2, aZ (i := 2) Z1, rfl, _, rfl, ?_⟩
   by_cases e2 : wAt ws 2 = "be"
   ·refine aM (by rw [decide_eq_true (congrArg V.str e2)]; rfl) ?_
    refine ⟨_, rfl, l, _, _, _, rfl, rfl, SqL.of hl2, aZ (i := 1) Z1, wAt ws 1, rfl, hw.len (cW Z1), fun H3 s3 => ⟨_, rfl, ?_⟩⟩
    cases e1 : nmB (wAt ws 1) with
    | false => exact kZ rfl (qn (fun r => by
     have n : neB ws = true := by
      rcases bR r with ⟨k, n, z⟩ | ⟨k, n, us, gu, eu, hc⟩ | ⟨k, n⟩ | ⟨k, n⟩ | ⟨k, n⟩ | ⟨k, n⟩
      ·exact n
      ·exact n
      all_goals (rcases h01 with e | e <;> exact absurd (e.symm.trans k) Z4)
     unfold neB at n
     simp only [and_eq_true, decide_eq_true_eq] at n
     rw [n.2.1] at e1; cases e1) H3 (s12.trans s3))
    | true =>
     refine mH rfl ?_
     refine ⟨_, rfl, rfl, _, rfl, aM (decide_eq_false Z7) ?_⟩
     have hl3 := s3 _ _ hl2
     have hn : neB ws = true := by unfold neB; rw [decide_eq_true h3, e1, decide_eq_true e2]; rfl
     obtain ⟨_, hn1, ew⟩ := nM hn
     refine ⟨_, rfl, l, _, _, _, rfl, rfl, SqL.of hl3, aZ (i := 0) Z1, rfl, _, rfl, ?_⟩
     rcases h01 with e0 | e0
     ·refine aM (decide_eq_false fun k => absurd (e0.symm.trans (V.str.inj k)) Z4) (bA ?_)
      refine ⟨_, rfl, l, _, _, _, rfl, rfl, SqL.of hl3, aZ (i := 0) Z1, _, rfl, l, _, _, _, rfl, rfl, SqL.of hl3, aZ (i := 1) Z1, _, rfl, by show 5 <= sizeLine; decide, fun p5 hp5 => ?_⟩
      refine q ⟨0, wAt ws 1, a1, a1, ts⟩ (Fz hn1 g) (by rw [e0, et] at ew; exact ew) _ _ ((s12.trans s3).put hp5) ⟨p5, L, rfl, by rw [ao, e0]; rfl, fun _ => ?_, fun k => absurd (.inl rfl) k⟩
      exact (htm.same s3).same (aB.new hp5)
     ·refine bu (decide_eq_true (congrArg V.str e0)) ?_
      obtain ⟨xs, hxL, hxl, hx⟩ := htm.same s3
      refine ⟨_, rfl, L, rfl, ⟨_, SqL.of hxL⟩, ?_⟩
      have g6 := g.hi
      refine uw (xs := xs) (fun i => V.str ((ts[i]?).elim (("" : Str)) fun t : Trm => kindOf t.th)) (le_trans (show xs.length <= 1000 by omega) cX) (SqL.of hxL) (fun i x H' Q' ex sm k' => ?_) (fun H' sm p5 hp5 => ?_)
      ·obtain ⟨t, et', tm⟩ := hx i x ex
       obtain ⟨a, y, rfl, ha, _⟩ := tm.same sm
       have hk := k' H' (aB.refl _)
       rw [et'] at hk
       exact ⟨_, rfl, a, _, _, V.str (kindOf t.th), rfl, rfl, SqT.of ha, rfl, hk⟩
      refine ⟨p5, _, rfl, .inl (SqL.of ao), rfl, ?_, _, rfl, ?_⟩
      ·rw [all_eq_true]; intro v hv; obtain ⟨z, _, rfl⟩ := mem_map.mp hv; rfl
      have s5 := ((s12.trans s3).trans sm).put hp5 (o := .lst ((List.range xs.length).map fun i => V.str ((ts[i]?).elim (("" : Str)) fun t : Trm => kindOf t.th)))
      have ei : inV (V.str "call") ((List.range xs.length).map fun i => V.str ((ts[i]?).elim (("" : Str)) fun t : Trm => kindOf t.th)) = ts.any isCall := by
       rw [hxl, <- any_range]
       unfold inV
       rw [any_map, any_map]
       have ef : ((fun y => eqV y (V.str "call")) ∘ fun i : Nat => V.str ((ts[i]?).elim (("" : Str)) fun t : Trm => kindOf t.th)) = (id ∘ fun i : Nat => (ts[i]?).elim false isCall) := funext fun (i : Nat) => by
        show (((ts[i]?).elim (("" : Str)) fun t : Trm => kindOf t.th) == ("call" : Str)) = (ts[i]?).elim false isCall
        cases ts[i]? with
        | none => decide +kernel
        | some t =>
         have := wU t
         rw [jt] at this
         show (kindOf t.th == ("call" : Str)) = isCall t
         rw [<- this]
         by_cases h : kindOf t.th = ("call" : Str)
         ·rw [decide_eq_true h]; exact beq_iff_eq.mpr h
         ·rw [decide_eq_false h]; exact beq_eq_false_iff_ne.mpr h
       rw [ef]
      cases ec2 : ts.any isCall with
      | true =>
       refine bu (ei.trans ec2) ?_
       exact qn (fun r => by
        rcases bR r with ⟨k, _⟩ | ⟨k, _, us, gu, eu, hc⟩ | ⟨k, _⟩ | ⟨k, _⟩ | ⟨k, _⟩ | ⟨k, _⟩ <;> first | exact absurd (e0.symm.trans k) Z4 | skip
        have : us = ts := eQ gu g (eu.symm.trans et)
        subst this
        rw [any_eq_false.mpr fun t ht => by rw [hc t ht]; decide] at ec2
        cases ec2) _ s5
      | false =>
       refine aM (ei.trans ec2) ?_
       have hl5 := (aB.new hp5 (o := .lst ((List.range xs.length).map fun i => V.str ((ts[i]?).elim (("" : Str)) fun t : Trm => kindOf t.th)))) _ _ (sm _ _ hl3)
       have ht5 : eU (upd H' p5 (.lst ((List.range xs.length).map fun i => V.str ((ts[i]?).elim (("" : Str)) fun t : Trm => kindOf t.th)))) L ts := ((htm.same s3).same sm).same (aB.new hp5)
       refine ⟨_, rfl, l, _, _, _, rfl, rfl, SqL.of hl5, aZ (i := 0) Z1, _, rfl, l, _, _, _, rfl, rfl, SqL.of hl5, aZ (i := 1) Z1, _, rfl, by show 5 <= sizeLine; decide, fun p6 hp6 => ?_⟩
       refine q ⟨1, wAt ws 1, a1, a1, ts⟩ (CG hn1 g fun t ht => by simpa using any_eq_false.mp ec2 t ht) (by rw [e0, et] at ew; exact ew) _ _ (s5.put hp6) ⟨p6, L, rfl, by rw [ao, e0]; rfl, fun _ => ?_, fun k => absurd (.inr (.inl rfl)) k⟩
       exact ht5.same (aB.new hp6)
   ·refine bu (by rw [decide_eq_false fun k => e2 (V.str.inj k)]; rfl) ?_
    exact qn (fun r => by
     have n : neB ws = true := by
      rcases bR r with ⟨k, n, z⟩ | ⟨k, n, us, gu, eu, hc⟩ | ⟨k, n⟩ | ⟨k, n⟩ | ⟨k, n⟩ | ⟨k, n⟩
      ·exact n
      ·exact n
      all_goals (rcases h01 with e | e <;> exact absurd (e.symm.trans k) Z4)
     unfold neB at n
     simp only [and_eq_true, decide_eq_true_eq] at n
     exact e2 n.2.2) H2 s12
  ·have hl2 := s2 _ _ ((aB.new hp) _ _ hl)
   have s12 := (aB.new hp).trans s2
   have nrr : ¬ RdR ws := (fun r => by
    rcases bR r with ⟨k, n, z⟩ | ⟨k, n, us, gu, eu, hc⟩ | ⟨k, n⟩ | ⟨k, n⟩ | ⟨k, n⟩ | ⟨k, n⟩
    ·exact nr z
    ·exact nr ⟨us, gu, eu⟩
    all_goals (rcases h01 with e | e <;> exact absurd (e.symm.trans k) Z4))
   refine ⟨_, rfl, l, _, _, _, rfl, rfl, SqL.of hl2, aZ (i := 2) Z1, rfl, _, rfl, ?_⟩
   by_cases e2 : wAt ws 2 = "be"
   ·refine aM (by rw [decide_eq_true (congrArg V.str e2)]; rfl) ?_
    refine ⟨_, rfl, l, _, _, _, rfl, rfl, SqL.of hl2, aZ (i := 1) Z1, wAt ws 1, rfl, hw.len (cW Z1), fun H3 s3 => ⟨_, rfl, ?_⟩⟩
    cases e1 : nmB (wAt ws 1) with
    | false => exact kZ rfl (qn nrr H3 (s12.trans s3))
    | true =>
     refine mH rfl ?_
     refine ⟨_, rfl, rfl, _, rfl, bu (decide_eq_true rfl) ?_⟩
     exact qn nrr H3 (s12.trans s3)
   ·refine bu (by rw [decide_eq_false fun k => e2 (V.str.inj k)]; rfl) ?_
    exact qn nrr H2 s12
theorem sJ (T : Tx K mg C) (F : Fun K "_law_read_row" "_law_read_row" fJ f fd) : aO P w K mg base CX0 5 f fd oh Dk := by
 obtain ⟨fbp, dbp, Abp⟩ := T.abp
 have Gbp : aO P w K mg base CX0 4 fbp dbp mX J3 := rA T Abp.F
 obtain ⟨fah, dah, Aah⟩ := T.aah
 have Gah : aO P w K mg base CX0 3 fah dah uK Fo := rT T Aah.F
 obtain ⟨faw, daw, Aaw⟩ := T.aaw
 have Gaw : aO P w K mg base CX0 2 faw daw jy tV := qt T Aaw.F
 obtain ⟨fac, dac, Aac⟩ := T.aac
 have Gac : aO P w K mg base CX0 1 fac dac jm lg := fG T Aac.F
 refine F.oq wM fun _ _ _ _ H _ Q E hr h => ?_
 ·obtain ⟨z, rfl, hz, q, qn⟩ := h
  have hr1 : bh 1 _ := hr.mono Z0
  have hr2 : bh 2 _ := hr.mono Z0
  have hr3 : bh 3 _ := hr.mono Z0
  have hr4 : bh 4 _ := hr
  refine ⟨_, QSs.h (au (bz (i := 1) wM.nd rfl (Or.inl rfl) (dU plainAttrs_str slot_str_split type_str_split gW (pv 0) (aj aA ak)))
   (au (bc (PW.pt (b8 (aG bw (aX aP (pv 1) aq) aA (aH _)) (bZ (aG Ip (aU Aah Gah hr3 (aj (bB cB (pv 1) (bI aq) bH) ak)) dM (aH _))))) (az (aD (cR (aj aA (aj aA (aj aA (aj aA (aj (aU Aah Gah hr3 (aj (bB cB (pv 1) (bI aq) bH) ak)) ak)))))))) aL)
   (au (bc (PW.pt (b8 (aG je (aX aP (pv 1) aq) (cR (aj aA (aj aA ak))) Z3) (bZ (aG jk (aF aY Z3 T.len boot_len (aj (pv 1) ak)) aq (aH _))))) (az (aD (aU Abp Gbp hr4 (aj (pv 1) ak)))) aL)
   (au (bc (PW.pt (b8 (aG je (aX aP (pv 1) aq) (cR (aj aA (aj aA ak))) Z3) (b8 (aG bw (aF aY Z3 T.len boot_len (aj (pv 1) ak)) aq (aH _)) (bZ (aG bw (aX aP (pv 1) aq) aA (aH _)))))) (az (bc (PW.pt (b8 (bF (aU Aaw Gaw hr2 (aj (aX aP (pv 1) aq) ak))) (bZ (bF (aU Aac Gac hr1 (aj (aX aP (pv 1) aq) ak)))))) (az (aD (cR (aj (aX aP (pv 1) aq) (aj (aX aP (pv 1) aq) (aj (aX aP (pv 1) aq) (aj aA (aj (bC ak) ak)))))))) aL)) aL)
   (au (bc (PW.pt (b8 (aG bw (aX aP (pv 1) aq) aA (aH _)) (b8 (aG bw (aF aY Z3 T.len boot_len (aj (pv 1) ak)) aq (aH _)) (b8 (aG bw (aX aP (pv 1) aq) aA (aH _)) (bZ (aG bw (aX aP (pv 1) aq) aA (aH _))))))) (az (bc (PW.pt (b8 (bF (aU Aac Gac hr1 (aj (aX aP (pv 1) aq) ak))) (b8 (bF (aU Aaw Gaw hr2 (aj (aX aP (pv 1) aq) ak))) (bZ (bF (aU Aac Gac hr1 (aj (aX aP (pv 1) aq) ak))))))) (az (aD (cR (aj aA (aj (aX aP (pv 1) aq) (aj (aX aP (pv 1) aq) (aj (aX aP (pv 1) aq) (aj (bC ak) ak)))))))) aL)) aL)
   (az (aD dM))))))), ?_⟩
  have hw := Wd.of hz
  refine ⟨_, rfl, rfl, _, _, rfl, rfl, ou, le_trans (show z.length + 2 <= 6002 by omega) Z0, fun l hl0 => ?_⟩
  have s0 := aB.new hl0 (o := .lst ((Txt.split z (" " : Str)).map V.str))
  have hl : upd H l (.lst ((Txt.split z (" " : Str)).map V.str)) l = some (.lst ((Txt.split z (" " : Str)).map V.str)) := ao
  generalize upd H l (.lst ((Txt.split z (" " : Str)).map V.str)) = H0 at s0 hl
  generalize Txt.split z (" " : Str) = ws at hw q qn hl
  have h0 : 0 < ws.length := hw.pos
  have ec : jj (ws.map V.str) (some ((1 : Nat) : Int)) none = (ws.drop 1).map V.str := by rw [pP, <- map_drop]
  refine ⟨_, rfl, l, _, _, _, rfl, rfl, SqL.of hl, aZ (i := 0) h0, rfl, _, rfl, ?_⟩
  by_cases e0 : wAt ws 0 = "need"
  ·refine bu (decide_eq_true (congrArg V.str e0)) ?_
   have hd := hw.drop 1
   refine ⟨_, rfl, _, rfl, l, _, rfl, SqL.of hl, fun p hp => ?_⟩
   refine ⟨p, ws.drop 1, rfl, ao.trans (congrArg (fun z => some (HO.lst z)) ec), fun w hw' => hw.len (List.mem_of_mem_drop hw'), Z1, fun ts g et L H2 hL s2 htm => ?_, fun nr H2 s2 => ?_⟩
   ·have hl2 := s2 _ _ ((aB.new hp) _ _ hl)
    have s12 := s0.trans ((aB.new hp).trans s2)
    refine ⟨rfl, _, rfl, bu (by rw [decide_eq_false (fun k => by cases k)]; rfl) ?_⟩
    refine ⟨_, rfl, _, rfl, l, _, rfl, SqL.of hl2, fun p2 hp2 => ?_⟩
    refine ⟨p2, ws.drop 1, rfl, ao.trans (congrArg (fun z => some (HO.lst z)) ec), fun w hw' => hw.len (List.mem_of_mem_drop hw'), Z1, fun ts2 g2 et2 L2 H3 hL2 s3 htm2 => ?_, fun nr => absurd ⟨ts, g, et⟩ nr⟩
    have s13 := s12.trans ((aB.new hp2).trans s3)
    refine ⟨by show 5 <= sizeLine; decide, fun p5 hp5 => ?_⟩
    refine q ⟨5, "", a1, a1, ts2⟩ (BV g2) ?_ _ _ (s13.put hp5) ⟨p5, L2, rfl, ao, fun _ => htm2.same (aB.new hp5), fun k => absurd (.inr (.inr rfl)) k⟩
    show ws = ("need" : Str) :: wordsOf ts2
    rw [<- et2]
    match ws, h0, e0 with
    | a :: r, _, e0 => exact congrArg (· :: r) e0
   ·have hl2 := s2 _ _ ((aB.new hp) _ _ hl)
    have s12 := s0.trans ((aB.new hp).trans s2)
    refine ⟨rfl, _, rfl, aM Z0 ?_⟩
    have nrr : ¬ RdR ws := fun r => by
     rcases bR r with ⟨k, _⟩ | ⟨k, _⟩ | ⟨k, _⟩ | ⟨k, _⟩ | ⟨k, _⟩ | ⟨k, n⟩ <;> first | exact absurd (e0.symm.trans k) Z4 | exact nr n
    refine ⟨_, rfl, l, _, _, _, rfl, rfl, SqL.of hl2, aZ (i := 0) h0, by show 2 <= sizeLine; decide, fun p1 hp1 => ⟨p1, _, rfl, .inr (SqT.of ao), rfl, rfl, _, rfl, ?_⟩⟩
    refine aM (by rw [e0]; decide +kernel) (bA ?_)
    have hl3 := (aB.new hp1 (o := .tup [V.str "let", V.str "deed"])) _ _ hl2
    refine ⟨_, rfl, l, _, _, _, rfl, rfl, SqL.of hl3, aZ (i := 0) h0, by show 2 <= sizeLine; decide, fun p3 hp3 => ⟨p3, _, rfl, .inr (SqT.of ao), rfl, rfl, _, rfl, ?_⟩⟩
    refine aM (by rw [e0]; decide +kernel) (bA ?_)
    have hl4 := (aB.new hp3 (o := .tup [V.str "draw", V.str "late"])) _ _ hl3
    refine ⟨_, rfl, l, _, _, _, rfl, rfl, SqL.of hl4, aZ (i := 0) h0, rfl, _, rfl, aM (by rw [e0]; decide +kernel) (bA ?_)⟩
    exact qn nrr _ ((s12.put hp1).put hp3)
  ·refine aM (decide_eq_false fun k => e0 (V.str.inj k)) (bA ?_)
   refine ⟨_, rfl, l, _, _, _, rfl, rfl, SqL.of hl, aZ (i := 0) h0, by show 2 <= sizeLine; decide, fun p1 hp1 => ⟨p1, _, rfl, .inr (SqT.of ao), rfl, rfl, _, rfl, ?_⟩⟩
   have hl1 := (aB.new hp1 (o := .tup [V.str "let", V.str "deed"])) _ _ hl
   have s1 := s0.put hp1 (o := .tup [V.str "let", V.str "deed"])
   by_cases e1 : wAt ws 0 = "let" \/ wAt ws 0 = "deed"
   ·refine bu (HR.trans (by rcases e1 with k | k <;> rw [k] <;> decide +kernel)) ?_
    refine ⟨_, rfl, l, _, rfl, .inl (SqL.of hl1), _, _, rfl, rfl, _, rfl, dm (fun h3 => ?_) (fun h3 => ?_)⟩
    ·rw [length_map] at h3
     exact ⟨_, rfl, l, ws, rfl, hl1, hw, Z1, e1, fun r g e v H2 s2 rt => q r g e v H2 (s1.trans s2) rt, fun nr H2 s2 => qn nr H2 (s1.trans s2)⟩
    ·rw [length_map] at h3
     have nrr : ¬ RdR ws := fun r => by
      rcases bR r with ⟨k, n, z⟩ | ⟨k, n, z⟩ | ⟨k, n⟩ | ⟨k, n⟩ | ⟨k, n⟩ | ⟨k, n⟩
      ·have := (nM n).1; omega
      ·have := (nM n).1; omega
      all_goals (rcases e1 with e | e <;> exact absurd (e.symm.trans k) Z4)
     refine ⟨_, rfl, l, _, _, _, rfl, rfl, SqL.of (hl1), aZ (i := 0) Z1, by show 2 <= sizeLine; decide, fun p3 hp3 => ⟨p3, _, rfl, .inr (SqT.of ao), rfl, rfl, _, rfl, ?_⟩⟩
     refine aM (HR.trans (by rcases e1 with k | k <;> rw [k] <;> decide +kernel)) (bA ?_)
     have hl4 := (aB.new hp3 (o := .tup [V.str "draw", V.str "late"])) _ _ hl1
     refine ⟨_, rfl, l, _, _, _, rfl, rfl, SqL.of (hl4), aZ (i := 0) Z1, rfl, _, rfl, aM (by rcases e1 with k | k <;> rw [k] <;> decide +kernel) (bA ?_)⟩
     exact qn nrr _ (s1.put hp3)
   ·refine aM (HR.trans (by rw [decide_eq_false fun k => e1 (.inl k), decide_eq_false fun k => e1 (.inr k)]; rfl)) (bA ?_)
    refine ⟨_, rfl, l, _, _, _, rfl, rfl, SqL.of (hl1), aZ (i := 0) Z1, by show 2 <= sizeLine; decide, fun p3 hp3 => ⟨p3, _, rfl, .inr (SqT.of ao), rfl, rfl, _, rfl, ?_⟩⟩
    have hl2 := (aB.new hp3 (o := .tup [V.str "draw", V.str "late"])) _ _ hl1
    have s2 := s1.put hp3 (o := .tup [V.str "draw", V.str "late"])
    generalize upd (upd H0 p1 (.tup [V.str "let", V.str "deed"])) p3 (.tup [V.str "draw", V.str "late"]) = H2 at hl2 s2
    by_cases e2 : wAt ws 0 = "draw" \/ wAt ws 0 = "late"
    ·refine bu (HR.trans (by rcases e2 with k | k <;> rw [k] <;> decide +kernel)) ?_
     have et : decide (V.str (wAt ws 0) = V.str "take") = false := by rcases e2 with k | k <;> rw [k] <;> decide +kernel
     have nna : naB ws = false -> ¬ RdR ws := fun z r => by
      rcases bR r with ⟨k, n⟩ | ⟨k, n⟩ | ⟨k, n⟩ | ⟨k, n⟩ | ⟨k, n⟩ | ⟨k, n⟩
      ·exact e1 (.inl k)
      ·exact e1 (.inr k)
      ·rw [n] at z; cases z
      ·rw [n] at z; cases z
      all_goals (rcases e2 with e | e <;> exact absurd (e.symm.trans k) Z4)
     have nna' := nna
     unfold naB at nna
     refine ⟨_, rfl, l, _, rfl, .inl (SqL.of hl2), rfl, _, rfl, ?_⟩
     by_cases h4 : ws.length = 4
     ·refine bu (by rw [length_map, h4]; exact decide_eq_true rfl) ?_
      rw [decide_eq_true h4, Bool.true_and] at nna
      refine ⟨_, rfl, l, _, _, _, rfl, rfl, SqL.of (hl2), aZ (i := 2) Z1, rfl, _, rfl, ?_⟩
      by_cases e3 : wAt ws 2 = "as"
      ·refine bu (decide_eq_true (congrArg V.str e3)) ?_
       rw [decide_eq_true e3, Bool.true_and] at nna
       refine ⟨_, rfl, l, _, _, _, rfl, rfl, SqL.of (hl2), aZ (i := 1) Z1, wAt ws 1, rfl, hw.len (cW Z1), fun H3 s3 => ⟨_, rfl, ?_⟩⟩
       have hl3 := s3 _ _ hl2
       cases e4 : cF 3 (wAt ws 1) with
       | false =>
        rw [e4, Bool.false_and] at nna
        exact aM rfl (bA ⟨_, rfl, l, _, _, _, rfl, rfl, SqL.of (hl3), aZ (i := 0) Z1, rfl, _, rfl, aM et (bA (qn (nna rfl) _ (s2.trans s3)))⟩)
       | true =>
        rw [e4, Bool.true_and] at nna
        refine bu rfl ⟨_, rfl, l, _, _, _, rfl, rfl, SqL.of (hl3), aZ (i := 3) Z1, wAt ws 3, rfl, hw.len (cW Z1), fun H4 s4 => ⟨_, rfl, ?_⟩⟩
        have hl4 := s4 _ _ hl3
        cases e5 : nmB (wAt ws 3) with
        | false => exact aM rfl ⟨_, rfl, l, _, _, _, rfl, rfl, SqL.of (hl4), aZ (i := 0) Z1, rfl, _, rfl, aM et (bA (qn (nna e5) _ ((s2.trans s3).trans s4)))⟩
        | true =>
         have na : naB ws = true := by unfold naB; rw [decide_eq_true h4, decide_eq_true e3, e4, e5]; rfl
         obtain ⟨_, ys, ga, ey, hn3, ew⟩ := uQ na
         refine bu rfl ⟨_, rfl, l, _, _, _, rfl, rfl, SqL.of (hl4), aZ (i := 0) Z1, _, rfl, l, _, _, _, rfl, rfl, SqL.of (hl4), aZ (i := 3) Z1, _, rfl, l, _, _, _, rfl, rfl, SqL.of (hl4), aZ (i := 1) Z1, by show 0 <= sizeLine; decide, fun L hL => ⟨by show 5 <= sizeLine; decide, fun p5 hp5 => ?_⟩⟩
         have s6 := (((s2.trans s3).trans s4).put hL (o := .lst [])).put hp5 (o := .tup [V.str (wAt ws 0), V.str (wAt ws 3), V.str (wAt ws 1), V.str "", V.ref L])
         have hL6 : upd (upd H4 L (.lst [])) p5 (.tup [V.str (wAt ws 0), V.str (wAt ws 3), V.str (wAt ws 1), V.str "", V.ref L]) L = some (.lst []) := (aB.new hp5) _ _ ao
         rcases e2 with k | k
         ·exact q ⟨2, wAt ws 3, dotted ys, a1, t1⟩ (tE (.inl rfl) hn3 ga) (by rw [k] at ew; exact ew) _ _ s6 ⟨p5, L, rfl, by rw [ao, k, ey]; rfl, fun z => absurd z (by show ¬ (2 = 0 \/ 2 = 1 \/ 2 = 5); decide), fun _ => hL6⟩
         ·exact q ⟨3, wAt ws 3, dotted ys, a1, t1⟩ (tE (.inr rfl) hn3 ga) (by rw [k] at ew; exact ew) _ _ s6 ⟨p5, L, rfl, by rw [ao, k, ey]; rfl, fun z => absurd z (by show ¬ (3 = 0 \/ 3 = 1 \/ 3 = 5); decide), fun _ => hL6⟩
      ·rw [decide_eq_false e3, Bool.false_and, Bool.and_false] at nna
       exact aM (decide_eq_false fun k => e3 (V.str.inj k)) ⟨_, rfl, l, _, _, _, rfl, rfl, SqL.of (hl2), aZ (i := 0) Z1, rfl, _, rfl, aM et (bA (qn (nna rfl) _ (s2)))⟩
     ·rw [decide_eq_false h4, Bool.false_and] at nna
      exact aM (by rw [length_map]; exact (mL (m := 4)).trans (decide_eq_false h4)) (bA ⟨_, rfl, l, _, _, _, rfl, rfl, SqL.of (hl2), aZ (i := 0) Z1, rfl, _, rfl, aM et (bA (qn (nna rfl) _ (s2)))⟩)
    ·refine aM (HR.trans (by rw [decide_eq_false fun k => e2 (.inl k), decide_eq_false fun k => e2 (.inr k)]; rfl)) (bA ?_)
     have nnw : nwB ws = false -> ¬ RdR ws := fun z r => by
      rcases bR r with ⟨k, n⟩ | ⟨k, n⟩ | ⟨k, n⟩ | ⟨k, n⟩ | ⟨k, n⟩ | ⟨k, n⟩
      ·exact e1 (.inl k)
      ·exact e1 (.inr k)
      ·exact e2 (.inl k)
      ·exact e2 (.inr k)
      ·rw [n] at z; cases z
      ·exact e0 k
     refine ⟨_, rfl, l, _, _, _, rfl, rfl, SqL.of (hl2), aZ (i := 0) Z1, rfl, _, rfl, ?_⟩
     by_cases e3 : wAt ws 0 = "take"
     ·refine bu (decide_eq_true (congrArg V.str e3)) ?_
      unfold nwB at nnw
      refine ⟨_, rfl, l, _, rfl, .inl (SqL.of hl2), rfl, _, rfl, ?_⟩
      by_cases h6 : ws.length = 6
      ·refine bu (by rw [length_map, h6]; exact decide_eq_true rfl) ?_
       rw [decide_eq_true h6, Bool.true_and] at nnw
       refine ⟨_, rfl, l, _, _, _, rfl, rfl, SqL.of (hl2), aZ (i := 2) Z1, rfl, _, rfl, ?_⟩
       by_cases e4 : wAt ws 2 = "from"
       ·refine bu (decide_eq_true (congrArg V.str e4)) ?_
        rw [decide_eq_true e4, Bool.true_and] at nnw
        refine ⟨_, rfl, l, _, _, _, rfl, rfl, SqL.of (hl2), aZ (i := 4) Z1, rfl, _, rfl, ?_⟩
        by_cases e5 : wAt ws 4 = "as"
        ·refine bu (decide_eq_true (congrArg V.str e5)) ?_
         rw [decide_eq_true e5, Bool.true_and] at nnw
         refine ⟨_, rfl, l, _, _, _, rfl, rfl, SqL.of (hl2), aZ (i := 1) Z1, wAt ws 1, rfl, hw.len (cW Z1), fun H3 s3 => ⟨_, rfl, ?_⟩⟩
         have hl3 := s3 _ _ hl2
         cases e6 : nmB (wAt ws 1) with
         | false =>
          rw [e6, Bool.false_and] at nnw
          exact aM rfl (bA (qn (nnw rfl) _ (s2.trans s3)))
         | true =>
          rw [e6, Bool.true_and] at nnw
          refine bu rfl ⟨_, rfl, l, _, _, _, rfl, rfl, SqL.of (hl3), aZ (i := 3) Z1, wAt ws 3, rfl, hw.len (cW Z1), fun H4 s4 => ⟨_, rfl, ?_⟩⟩
          have hl4 := s4 _ _ hl3
          cases e7 : cF 3 (wAt ws 3) with
          | false =>
           rw [e7, Bool.false_and] at nnw
           exact aM rfl (bA (qn (nnw rfl) _ ((s2.trans s3).trans s4)))
          | true =>
           rw [e7, Bool.true_and] at nnw
           refine bu rfl ⟨_, rfl, l, _, _, _, rfl, rfl, SqL.of (hl4), aZ (i := 5) Z1, wAt ws 5, rfl, hw.len (cW Z1), fun H5 s5 => ⟨_, rfl, ?_⟩⟩
           have hl5 := s5 _ _ hl4
           cases e8 : nmB (wAt ws 5) with
           | false => exact aM rfl (qn (nnw e8) _ (((s2.trans s3).trans s4).trans s5))
           | true =>
            have nw : nwB ws = true := by unfold nwB; rw [decide_eq_true h6, decide_eq_true e4, decide_eq_true e5, e6, e7, e8]; rfl
            obtain ⟨_, ys, ga, ey, hn1, hn5, ew⟩ := Af nw
            refine bu rfl ⟨_, rfl, l, _, _, _, rfl, rfl, SqL.of (hl5), aZ (i := 5) Z1, _, rfl, l, _, _, _, rfl, rfl, SqL.of (hl5), aZ (i := 3) Z1, _, rfl, l, _, _, _, rfl, rfl, SqL.of (hl5), aZ (i := 1) Z1, by show 0 <= sizeLine; decide, fun L hL => ⟨by show 5 <= sizeLine; decide, fun p5 hp5 => ?_⟩⟩
            have s6 := ((((s2.trans s3).trans s4).trans s5).put hL (o := .lst [])).put hp5 (o := .tup [V.str "take", V.str (wAt ws 5), V.str (wAt ws 3), V.str (wAt ws 1), V.ref L])
            have hL6 : upd (upd H5 L (.lst [])) p5 (.tup [V.str "take", V.str (wAt ws 5), V.str (wAt ws 3), V.str (wAt ws 1), V.ref L]) L = some (.lst []) := (aB.new hp5) _ _ ao
            exact q ⟨4, wAt ws 5, dotted ys, wAt ws 1, t1⟩ (Cp hn5 hn1 ga) (by rw [e3] at ew; exact ew) _ _ s6 ⟨p5, L, rfl, by rw [ao, ey]; rfl, fun z => absurd z (by show ¬ (4 = 0 \/ 4 = 1 \/ 4 = 5); decide), fun _ => hL6⟩
        ·rw [decide_eq_false e5, Bool.false_and] at nnw
         exact aM (decide_eq_false fun k => e5 (V.str.inj k)) (qn (nnw rfl) _ s2)
       ·rw [decide_eq_false e4, Bool.false_and] at nnw
        exact aM (decide_eq_false fun k => e4 (V.str.inj k)) (bA (qn (nnw rfl) _ s2))
      ·rw [decide_eq_false h6, Bool.false_and] at nnw
       exact aM (by rw [length_map]; exact (mL (m := 6)).trans (decide_eq_false h6)) (bA (qn (nnw rfl) _ s2))
     ·refine aM (decide_eq_false fun k => e3 (V.str.inj k)) (bA ?_)
      exact qn (fun r => by
       rcases bR r with ⟨k, n⟩ | ⟨k, n⟩ | ⟨k, n⟩ | ⟨k, n⟩ | ⟨k, n⟩ | ⟨k, n⟩
       ·exact e1 (.inl k)
       ·exact e1 (.inr k)
       ·exact e2 (.inl k)
       ·exact e2 (.inr k)
       ·exact e3 k
       ·exact e0 k) _ s2
theorem vC (T : Tx K mg C) (F : Fun K "_law_worded" "_law_worded" iC f fd) : aO P w K mg base CX0 2 f fd qL zX := by
 obtain ⟨faa, daa, Aaa⟩ := T.aaa
 have Gaa : aO P w K mg base CX0 1 faa daa gh jW := iH Aaa.F
 refine F.oq lC fun _ _ _ _ H _ Q E hr h => ?_
 ·obtain ⟨l, ws, c, rfl, hl, hne, ht, q⟩ := h
  have hr1 : bh 1 _ := hr
  refine J9 ((au (bz (i := 2) lC.nd rfl (Or.inl rfl) (aU Aaa Gaa hr1 (aj (pv 1) (aj aq (aj (aF aY Z3 T.len boot_len (aj (pv 0) ak)) ak)))))
   (au (bz (i := 3) lC.nd rfl (Or.inl rfl) (aU Aaa Gaa hr1 (aj (pv 1) (aj aq (aj aq ak)))))
   (au (bz (i := 4) lC.nd rfl (Or.inl rfl) (xO (aV aA (aV aA (aV aA (aV aA (aV aA (aV aA (aV aA (aV (aJ oX aA (aJ cA aq (aU Aaa Gaa hr1 (aj (pv 1) (aj aq (aj aq ak)))))) (aV aA (aV aA (aV aA qN)))))))))))))
   (au (bz (i := 4) lC.nd rfl (Or.inl rfl) (aJ dC (pv 4) (xO (aV aA (aV aA (aV aA (aV aA (aV aA (aV aA (aV aA qN))))))))))
   (au (bz (i := 5) lC.nd rfl (Or.inl rfl) (aX aP (pv 4) (aU Aaa Gaa hr1 (aj (pv 1) (aj aq (aj aq ak))))))
   (au (bc (aG bw (pv 3) aq (aH _)) (az (aD (aJ dC (aJ dC (bB cB (pv 0) bH (bI (pv 2))) (bC (aj (pv 5) ak))) (bB cB (pv 0) (bI (aJ cA (pv 2) aq)) bH)))) aL)
   (au (bc (aG bw (pv 3) aq (aH _)) (az (aD (aJ dC (bB cB (pv 0) bH (bI (pv 2))) (bB cB (pv 0) (bI (aJ cA (pv 2) aq)) bH)))) aL)
   (au (bc (aG bw (pv 3) aq (aH _)) (az (aD (aJ dC (bB cB (pv 0) bH (bI (aJ cA (pv 2) aq))) (bB cB (pv 0) (bI (pv 2)) bH)))) aL)
   (au (bc (aG bw (pv 3) aq (aH _)) (az (aD (aJ dC (pv 0) (bC (aj aA (aj (pv 5) ak)))))) aL)
   (au (bc (aG bw (pv 3) aq (aH _)) (az (aD (aJ dC (bC (aj (pv 5) ak)) (pv 0)))) aL)
   (au (bc (aG bw (pv 3) aq (aH _)) (az (aD (aJ dC (aJ dC (bB cB (pv 0) bH (bI (pv 2))) (bC (aj (aJ aN (aX aP (pv 0) (pv 2)) aA) ak))) (bB cB (pv 0) (bI (aJ cA (pv 2) aq)) bH)))) aL)
   (au (bc (aG bw (pv 3) aq (aH _)) (az (aD (aJ dC (aJ dC (bB cB (pv 0) bH (bI aq)) (bC (aj (pv 5) ak))) (bB cB (pv 0) (bI aq) bH)))) aL)
   (au (bc (aG bw (pv 3) aq (aH _)) (az (aD (aJ dC (aJ dC (bB cB (pv 0) bH (bI (pv 2))) (bC (aj (aJ aN (aX aP (pv 0) (pv 2)) aA) ak))) (bB cB (pv 0) (bI (aJ cA (pv 2) aq)) bH)))) aL)
   (az (aD (aJ dC (bC (aj aA ak)) (bB cB (pv 0) (bI aq) bH)))))))))))))))))) ?_
  have hpos : 0 < ws.length := length_pos_iff.mpr hne
  have hlen := Ce ws
  have big : 20000 <= sizeLine := by decide
  refine ⟨_, rfl, _, rfl, l, _, rfl, .inl (SqL.of hl), c, 6, _, rfl, Z0, Z0, by rw [length_map]; omega, fun H1 s1 => ?_⟩
  have g0 := cP c 6 (m := ((ws.map V.str).length : Int)) (by rw [length_map]; omega)
  have g1 := cN c 6 (m := ((ws.map V.str).length : Int)) (by rw [length_map]; omega)
  generalize pick c 6 ((ws.map V.str).length : Int) = at_ at g0 g1
  rw [length_map] at g1
  obtain ⟨k, rfl⟩ := Int.eq_ofNat_of_zero_le g0
  have hk : k < ws.length := by omega
  refine ⟨_, rfl, c, 7, 9, rfl, Z0, Z0, Z0, fun H2 s2 => ?_⟩
  have n0 := cP c 9 (m := 700) Z0
  have n1 := cN c 9 (m := 700) Z0
  refine ⟨_, rfl, c, 9, 700, rfl, Z0, Z0, Z0, fun H3 s3 => ⟨_, _, rfl, rfl, _, _, rfl, rfl, (JV Z4 Z1 Z1).1, by show 11 <= sizeLine; decide, fun A hA => ?_⟩⟩
  refine ⟨_, rfl, by show 7 <= sizeLine; decide, fun B hB => ⟨A, B, _, _, rfl, rfl, (aB.new hB) _ _ ao, ao, by show 11 + 7 <= sizeLine; decide, fun D hD0 => ?_⟩⟩
  have n2 : 0 <= 4301 + pick c 9 700 := by omega
  have n3 : 4301 + pick c 9 700 <= 5000 := by omega
  generalize 4301 + pick c 9 700 = n at n2 n3 hB hD0 ⊢
  have hD : upd (upd (upd H3 A (.lst ((wl n).take 11))) B (.lst ((wl n).drop 11))) D (.lst (wl n)) D = some (.lst (wl n)) := ao
  refine ⟨_, rfl, _, rfl, c, 8, 18, rfl, Z0, Z0, Z0, fun H4 s4 => ?_⟩
  have s04 : aB H H4 := ((((s1.trans (s2.trans s3)).put hA).put hB).put hD0).trans s4
  obtain ⟨v, ev, hv⟩ := zM (xs := wl n) (cP c 8 (m := 18) Z0) (cN c 8 (m := 18) Z0)
  obtain ⟨w, rfl, hw⟩ := JL n2 n3 hv
  refine ⟨D, _, _, V.str w, rfl, rfl, SqL.of (s4 _ _ hD), ev, ?_⟩
  have hl4 := s04 _ _ hl
  clear hD ev hv s4 hD0 hB hA
  have hcl : ∀ lo hi, (jj (ws.map V.str) lo hi).length <= 600 := fun lo hi => le_trans (JX _ _ _) (by rw [length_map]; omega)
  have hwl : (wAt ws k).length < tot ws := Jo (cW hk)
  have lb : ((".b" : Str)).length = 2 := by decide +kernel
  have lc : (("()" : Str)).length = 2 := by decide +kernel
  have ck1 : jj (ws.map V.str) (some ((k : Int) + 1)) none = (ws.drop (k + 1)).map V.str := Jq ws (k + 1)
  have ct1 : jj (ws.map V.str) none (some ((k : Int) + 1)) = (ws.take (k + 1)).map V.str := cuts ws (k + 1)
  have c1 := hcl none (some (k : Int))
  have c2 := hcl (some ((k : Int) + 1)) none
  have c3 := hcl none (some ((k : Int) + 1))
  have c4 := hcl (some (k : Int)) none
  have c5 := hcl none (some 1)
  have c6 := hcl (some 2) none
  have c7 := hcl (some 1) none
  have c8 : (ws.map V.str).length <= 600 := by rw [length_map]; omega
  have d1 := pO ws k
  have d2 := pO ws (k + 1)
  have d3 := zZ ws k
  have d4 := pO ws 1
  have d5 := pO ws 2
  have d6 : tot (ws.drop 2) <= tot (ws.drop 1) := zZ ws 1
  refine ⟨_, rfl, rfl, _, rfl, fX (fun _ => ?_) (fun _ => ?_)⟩
  ·refine ⟨_, rfl, _, rfl, _, rfl, l, _, rfl, SqL.of hl4, fun p0 hp0 => ⟨_, rfl, by show 1 <= sizeLine; decide, fun p1 hp1 => ⟨p0, p1, _, _, rfl, rfl, ((aB.new hp1) _ _ ao), ao, by first | omega | (simp only [length_append, length_cons, length_nil]; omega), fun p2 hp2 => ⟨_, rfl, _, rfl, _, _, rfl, rfl, _, rfl, l, _, rfl, SqL.of ((aB.new hp2) _ _ ((aB.new hp1) _ _ ((aB.new hp0) _ _ hl4))), fun p3 hp3 => ⟨p2, p3, _, _, rfl, rfl, ((aB.new hp3) _ _ ao), ao, by first | omega | (simp only [length_append, length_cons, length_nil]; omega), fun p4 hp4 => q p4 (ws.take k ++ [w] ++ ws.drop (k + 1)) _ (((((s04.put hp0).put hp1).put hp2).put hp3).put hp4) (ao.trans ?_) ?_⟩⟩⟩⟩⟩
   ·exact congrArg (fun z => some (HO.lst z)) (by rw [cuts, ck1, map_append, map_append]; rfl)
   ·rw [cO, cO, iV]; omega
  refine ⟨_, rfl, rfl, _, rfl, fX (fun _ => ?_) (fun _ => ?_)⟩
  ·refine ⟨_, rfl, _, rfl, _, rfl, l, _, rfl, SqL.of hl4, fun p0 hp0 => ⟨_, rfl, _, rfl, _, _, rfl, rfl, _, rfl, l, _, rfl, SqL.of ((aB.new hp0) _ _ hl4), fun p1 hp1 => ⟨p0, p1, _, _, rfl, rfl, ((aB.new hp1) _ _ ao), ao, by first | omega | (simp only [length_append, length_cons, length_nil]; omega), fun p2 hp2 => q p2 (ws.take k ++ ws.drop (k + 1)) _ (((s04.put hp0).put hp1).put hp2) (ao.trans ?_) ?_⟩⟩⟩
   ·exact congrArg (fun z => some (HO.lst z)) (by rw [cuts, ck1, map_append])
   ·rw [cO]; omega
  refine ⟨_, rfl, rfl, _, rfl, fX (fun _ => ?_) (fun _ => ?_)⟩
  ·refine ⟨_, rfl, _, rfl, _, _, rfl, rfl, _, rfl, l, _, rfl, SqL.of hl4, fun p0 hp0 => ⟨_, rfl, _, rfl, _, rfl, l, _, rfl, SqL.of ((aB.new hp0) _ _ hl4), fun p1 hp1 => ⟨p0, p1, _, _, rfl, rfl, ((aB.new hp1) _ _ ao), ao, by first | omega | (simp only [length_append, length_cons, length_nil]; omega), fun p2 hp2 => q p2 (ws.take (k + 1) ++ ws.drop k) _ (((s04.put hp0).put hp1).put hp2) (ao.trans ?_) ?_⟩⟩⟩
   ·exact congrArg (fun z => some (HO.lst z)) (by rw [ct1, Jq, map_append])
   ·rw [cO]; omega
  refine ⟨_, rfl, rfl, _, rfl, fX (fun _ => ?_) (fun _ => ?_)⟩
  ·refine ⟨_, rfl, _, rfl, by show 2 <= sizeLine; decide, fun p0 hp0 => ⟨l, p0, _, _, rfl, rfl, ((aB.new hp0) _ _ hl4), ao, by first | omega | (simp only [length_append, length_cons, length_nil]; omega), fun p1 hp1 => q p1 (ws ++ [("+" : Str), w]) _ ((s04.put hp0).put hp1) (ao.trans ?_) ?_⟩⟩
   ·exact congrArg (fun z => some (HO.lst z)) (by rw [map_append]; rfl)
   ·rw [show [("+" : Str), w] = [("+" : Str)] ++ [w] from rfl, cO, cO, iV, iV, show (("+" : Str)).length = 1 by decide +kernel]; omega
  refine ⟨_, rfl, rfl, _, rfl, fX (fun _ => ?_) (fun _ => ?_)⟩
  ·refine ⟨_, rfl, by show 1 <= sizeLine; decide, fun p0 hp0 => ⟨_, rfl, p0, l, _, _, rfl, rfl, ao, ((aB.new hp0) _ _ hl4), by first | omega | (simp only [length_append, length_cons, length_nil]; omega), fun p1 hp1 => q p1 ([w] ++ ws) _ ((s04.put hp0).put hp1) (ao.trans ?_) ?_⟩⟩
   ·exact congrArg (fun z => some (HO.lst z)) (by rw [map_append]; rfl)
   ·rw [cO, iV]; omega
  refine ⟨_, rfl, rfl, _, rfl, fX (fun _ => ?_) (fun _ => ?_)⟩
  ·refine ⟨_, rfl, _, rfl, _, rfl, l, _, rfl, SqL.of hl4, fun p0 hp0 => ⟨_, rfl, _, rfl, l, _, _, _, rfl, rfl, SqL.of ((aB.new hp0) _ _ hl4), aZ (i := k) hk, _, _, rfl, rfl, by rw [lb]; omega, by show 1 <= sizeLine; decide, fun p1 hp1 => ⟨p0, p1, _, _, rfl, rfl, ((aB.new hp1) _ _ ao), ao, by first | omega | (simp only [length_append, length_cons, length_nil]; omega), fun p2 hp2 => ⟨_, rfl, _, rfl, _, _, rfl, rfl, _, rfl, l, _, rfl, SqL.of ((aB.new hp2) _ _ ((aB.new hp1) _ _ ((aB.new hp0) _ _ hl4))), fun p3 hp3 => ⟨p2, p3, _, _, rfl, rfl, ((aB.new hp3) _ _ ao), ao, by first | omega | (simp only [length_append, length_cons, length_nil]; omega), fun p4 hp4 => q p4 (ws.take k ++ [wAt ws k ++ (".b" : Str)] ++ ws.drop (k + 1)) _ (((((s04.put hp0).put hp1).put hp2).put hp3).put hp4) (ao.trans ?_) ?_⟩⟩⟩⟩⟩
   ·exact congrArg (fun z => some (HO.lst z)) (by rw [cuts, ck1, map_append, map_append]; rfl)
   ·rw [cO, cO, iV, bO, lb]; omega
  refine ⟨_, rfl, rfl, _, rfl, fX (fun _ => ?_) (fun _ => ?_)⟩
  ·refine ⟨_, rfl, _, rfl, l, _, rfl, SqL.of hl4, fun p0 hp0 => ⟨_, rfl, by show 1 <= sizeLine; decide, fun p1 hp1 => ⟨p0, p1, _, _, rfl, rfl, ((aB.new hp1) _ _ ao), ao, by first | omega | (simp only [length_append, length_cons, length_nil]; omega), fun p2 hp2 => ⟨_, rfl, _, rfl, l, _, rfl, SqL.of ((aB.new hp2) _ _ ((aB.new hp1) _ _ ((aB.new hp0) _ _ hl4))), fun p3 hp3 => ⟨p2, p3, _, _, rfl, rfl, ((aB.new hp3) _ _ ao), ao, by first | omega | (simp only [length_append, length_cons, length_nil]; omega), fun p4 hp4 => q p4 (ws.take 1 ++ [w] ++ ws.drop 2) _ (((((s04.put hp0).put hp1).put hp2).put hp3).put hp4) (ao.trans ?_) ?_⟩⟩⟩⟩⟩
   ·exact congrArg (fun z => some (HO.lst z)) (by rw [show jj (ws.map V.str) none (some 1) = (ws.take 1).map V.str from cuts ws 1, show jj (ws.map V.str) (some 2) none = (ws.drop 2).map V.str from Jq ws 2, map_append, map_append]; rfl)
   ·rw [cO, cO, iV]; omega
  refine ⟨_, rfl, rfl, _, rfl, fX (fun _ => ?_) (fun _ => ?_)⟩
  ·refine ⟨_, rfl, _, rfl, _, rfl, l, _, rfl, SqL.of hl4, fun p0 hp0 => ⟨_, rfl, _, rfl, l, _, _, _, rfl, rfl, SqL.of ((aB.new hp0) _ _ hl4), aZ (i := k) hk, _, _, rfl, rfl, by rw [lc]; omega, by show 1 <= sizeLine; decide, fun p1 hp1 => ⟨p0, p1, _, _, rfl, rfl, ((aB.new hp1) _ _ ao), ao, by first | omega | (simp only [length_append, length_cons, length_nil]; omega), fun p2 hp2 => ⟨_, rfl, _, rfl, _, _, rfl, rfl, _, rfl, l, _, rfl, SqL.of ((aB.new hp2) _ _ ((aB.new hp1) _ _ ((aB.new hp0) _ _ hl4))), fun p3 hp3 => ⟨p2, p3, _, _, rfl, rfl, ((aB.new hp3) _ _ ao), ao, by first | omega | (simp only [length_append, length_cons, length_nil]; omega), fun p4 hp4 => q p4 (ws.take k ++ [wAt ws k ++ ("()" : Str)] ++ ws.drop (k + 1)) _ (((((s04.put hp0).put hp1).put hp2).put hp3).put hp4) (ao.trans ?_) ?_⟩⟩⟩⟩⟩
   ·exact congrArg (fun z => some (HO.lst z)) (by rw [cuts, ck1, map_append, map_append]; rfl)
   ·rw [cO, cO, iV, bO, lc]; omega
  refine ⟨by show 1 <= sizeLine; decide, fun p0 hp0 => ⟨_, rfl, _, rfl, l, _, rfl, SqL.of ((aB.new hp0) _ _ hl4), fun p1 hp1 => ⟨p0, p1, _, _, rfl, rfl, ((aB.new hp1) _ _ ao), ao, by first | omega | (simp only [length_append, length_cons, length_nil]; omega), fun p2 hp2 => q p2 ([("need" : Str)] ++ ws.drop 1) _ (((s04.put hp0).put hp1).put hp2) (ao.trans ?_) ?_⟩⟩⟩
  ·exact congrArg (fun z => some (HO.lst z)) (by rw [show jj (ws.map V.str) (some 1) none = (ws.drop 1).map V.str from Jq ws 1, map_append]; rfl)
  ·rw [cO, iV, show (("need" : Str)).length = 4 by decide +kernel]; omega
theorem vG (T : Tx K mg C) (F : Fun K "_law_signed" "_law_signed" iZ f fd) : aO P w K mg base CX0 2 f fd ql yW := by
 obtain ⟨faa, daa, Aaa⟩ := T.aaa
 have Gaa : aO P w K mg base CX0 1 faa daa gh jW := iH Aaa.F
 refine F.oq lD fun _ _ _ _ H _ Q E hr h => ?_
 ·obtain ⟨z, c, rfl, h2, q⟩ := h
  have hr1 : bh 1 _ := hr
  refine ⟨_, QSs.h (au (bz (i := 2) lD.nd rfl (Or.inl rfl) aA)
   (au (bz (i := 0) lD.nd rfl (Or.inl rfl) (aJ aN (pv 0) (aJ oX aA (bL eX Z3 T.t_int boot_int (aj (bJ bw (pv 0) aA (aH _)) ak)))))
   (au (bz (i := 3) lD.nd rfl (Or.inl rfl) (aU Aaa Gaa hr1 (aj (pv 1) (aj aq (aj (aF b7 Z3 T.len boot_len (aj (pv 0) ak)) ak)))))
   (au (bz (i := 4) lD.nd rfl (Or.inl rfl) (aX yo (pv 2) (aU Aaa Gaa hr1 (aj (pv 1) (aj aq (aj (aF b7 Z3 T.len boot_len (aj (pv 2) ak)) ak))))))
   (au (bz (i := 5) lD.nd rfl (Or.inl rfl) (aU Aaa Gaa hr1 (aj (pv 1) (aj aq (aj aq ak)))))
   (au (bc (aG bw (pv 5) aq (aH _)) (az (aD (aJ aN (aJ aN (bB mz (pv 0) bH (bI (pv 3))) (pv 4)) (bB mz (pv 0) (bI (pv 3)) bH)))) aL)
   (au (bc (aG bw (pv 5) aq (aH _)) (az (aD (aJ aN (aJ aN (bB mz (pv 0) bH (bI (pv 3))) (pv 4)) (bB mz (pv 0) (bI (aJ cA (pv 3) aq)) bH)))) aL)
   (au (bc (aG bw (pv 5) aq (aH _)) (az (aD (aJ aN (pv 0) (pv 4)))) aL)
   (az (aD (aJ aN (bB mz (pv 0) bH (bI (pv 3))) (bB mz (pv 0) (bI (aJ cA (pv 3) aq)) bH)))))))))))), ?_⟩
  obtain ⟨k1, k2⟩ := FP (z := z)
  refine ⟨_, rfl, _, rfl, rfl, .inr ⟨_, rfl, _, _, rfl, rfl, Jt _, _, _, rfl, rfl, by rw [<- bO]; exact le_trans (show _ <= 6000 by omega) Z0, ?_⟩⟩
  generalize z ++ Txt.mul "a" (if decide (V.str z = V.str "") = true then 1 else 0) = y at k1 k2
  have hz' : y.length <= sizeLine := le_trans (show y.length <= 6000 by omega) Z0
  refine ⟨_, rfl, _, rfl, _, rfl, hz', c, 3, (y.length : Int), rfl, Z0, Z0, Z1, fun H1 s1 => ?_⟩
  refine ⟨_, rfl, _, rfl, _, rfl, _, rfl, Z4, c, 4, _, rfl, Z0, Z0, Z4, fun H2 s2 => ?_⟩
  refine Jv Z4 Z4 fun ch => ?_
  refine ⟨_, rfl, c, 5, 4, rfl, Z0, Z0, Z0, fun H3 s3 => ?_⟩
  have sm : aB H H3 := s1.trans (s2.trans s3)
  have l2 : ((⟨#[ch]⟩ : Str)).length = 1 := rfl
  have big : 20000 <= sizeLine := by decide
  have g0 := cP c 3 (m := (y.length : Int)) Z1
  have g1 := cN c 3 (m := (y.length : Int)) Z1
  generalize pick c 3 (y.length : Int) = at_ at g0 g1
  have a1 := Uc (y := y) g0 Z1
  have a2 := Cu (y := y) g0 Z1
  have a3 := Cu (y := y) (i := at_ + 1) Z1 Z1
  have e3 : (at_ + 1).toNat = at_.toNat + 1 := by omega
  rw [e3] at a3
  have g2 : at_.toNat < y.length := by omega
  refine ⟨_, rfl, rfl, _, rfl, fX (fun _ => ?_) (fun _ => ?_)⟩
  ·exact ⟨_, rfl, _, rfl, _, rfl, y, rfl, hz', _, rfl, _, _, rfl, rfl, Z1, _, rfl, _, rfl, _, rfl, y, rfl, hz', _, _, rfl, rfl, by rw [bO]; omega, q _ _ (by rw [bO, bO]; omega) sm⟩
  refine ⟨_, rfl, rfl, _, rfl, fX (fun _ => ?_) (fun _ => ?_)⟩
  ·exact ⟨_, rfl, _, rfl, _, rfl, y, rfl, hz', _, rfl, _, _, rfl, rfl, Z1, _, rfl, _, rfl, _, _, rfl, rfl, _, rfl, y, rfl, hz', _, _, rfl, rfl, by rw [bO]; omega, q _ _ (by rw [bO, bO]; omega) sm⟩
  refine ⟨_, rfl, rfl, _, rfl, fX (fun _ => ?_) (fun _ => ?_)⟩
  ·exact ⟨_, rfl, _, rfl, _, _, rfl, rfl, Z1, q _ _ (by rw [bO]; omega) sm⟩
  exact ⟨_, rfl, _, rfl, _, rfl, y, rfl, hz', _, rfl, _, rfl, _, _, rfl, rfl, _, rfl, y, rfl, hz', _, _, rfl, rfl, Z1, q _ _ (by rw [bO]; omega) sm⟩
theorem xG (T : Tx K mg C) (F : Fun K "_law_other" "_law_other" jw f fd) : qC P w K mg base 1 f fd tM (za C) := by
 refine F.okH tK (fun vs H Q E h => ?_) (fun cdv A outer s H vs Q E y hr h => ?_)
 ·obtain ⟨x, p, i, rfl, _⟩ := h
  rfl
 ·obtain ⟨x, p, i, rfl, hx, hp, q⟩ := h
  refine ⟨_, QSs.h (au (bz (i := 1) tK.nd rfl (Or.inl rfl) (bC (aj (aF (bK (K := K) rfl) Z3 T.inst boot_isinstance (aj (pv 0) (aj (dG T.c_Clash) ak))) (aj (aF (bK (K := K) rfl) Z3 T.inst boot_isinstance (aj (pv 0) (aj (dG T.c_Double) ak))) (aj (aF (bK (K := K) rfl) Z3 T.inst boot_isinstance (aj (pv 0) (aj (dG T.c_Fault) ak))) (aj (aF (bK (K := K) rfl) Z3 T.inst boot_isinstance (aj (pv 0) (aj (dG T.c_NoDrop) ak))) ak))))))
   (au (bz (i := 1) tK.nd rfl (Or.inl rfl) (aJ dC (pv 1) (bC (aj (aF (bK (K := K) rfl) Z3 T.inst boot_isinstance (aj (pv 0) (aj (dG T.c_NoName) ak))) (aj (aF (bK (K := K) rfl) Z3 T.inst boot_isinstance (aj (pv 0) (aj (dG T.c_NoPart) ak))) (aj (aF (bK (K := K) rfl) Z3 T.inst boot_isinstance (aj (pv 0) (aj (dG T.c_NoRow) ak))) (aj (aF (bK (K := K) rfl) Z3 T.inst boot_isinstance (aj (pv 0) (aj (dG T.c_NoExpr) ak))) ak)))))))
   (au (bz (i := 1) tK.nd rfl (Or.inl rfl) (aJ dC (pv 1) (bC (aj (aF (bK (K := K) rfl) Z3 T.inst boot_isinstance (aj (pv 0) (aj (dG T.c_Orphan) ak))) (aj (aF (bK (K := K) rfl) Z3 T.inst boot_isinstance (aj (pv 0) (aj (dG T.c_TooMany) ak))) (aj (aF (bK (K := K) rfl) Z3 T.inst boot_isinstance (aj (pv 0) (aj (dG T.c_TooWide) ak))) (aj (aF (bK (K := K) rfl) Z3 T.inst boot_isinstance (aj (pv 0) (aj (dG T.c_Twice) ak))) ak)))))))
   (az (aD (bJ (LC (K := K) rfl) fK (pv 1) Z3)))))), ?_⟩
  have hd : ∀ {H' : Hp}, aB H H' -> ∀ p', some p = some p' -> ∃ fs, H' p' = some (XdO p' fs) := fun s p' e => ⟨_, by cases e; exact s _ _ hp⟩
  have s0 := aB.refl H
  refine ⟨_, rfl, _, x, C 22, some p, _, _, _, rfl, rfl, s0 _ _ hx, hd s0, T.xf.x, T.xf.k 23 Z0 Z0, _, rfl, _, x, C 22, some p, _, _, _, rfl, rfl, s0 _ _ hx, hd s0, T.xf.x, T.xf.k 24 Z0 Z0, _, rfl, _, x, C 22, some p, _, _, _, rfl, rfl, s0 _ _ hx, hd s0, T.xf.x, T.xf.k 25 Z0 Z0, _, rfl, _, x, C 22, some p, _, _, _, rfl, rfl, s0 _ _ hx, hd s0, T.xf.x, T.xf.k 26 Z0 Z0, by show 4 <= sizeLine; decide, fun l1 hl1 => ?_⟩
  have s1 : aB H (upd H l1 (.lst [V.bl false, V.bl false, V.bl false, V.bl false])) := aB.new hl1
  have k1 : upd H l1 (.lst [V.bl false, V.bl false, V.bl false, V.bl false]) l1 = some (.lst [V.bl false, V.bl false, V.bl false, V.bl false]) := ao
  refine ⟨_, rfl, _, rfl, _, x, C 22, some p, _, _, _, rfl, rfl, s1 _ _ hx, hd s1, T.xf.x, T.xf.k 27 Z0 Z0, _, rfl, _, x, C 22, some p, _, _, _, rfl, rfl, s1 _ _ hx, hd s1, T.xf.x, T.xf.k 28 Z0 Z0, _, rfl, _, x, C 22, some p, _, _, _, rfl, rfl, s1 _ _ hx, hd s1, T.xf.x, T.xf.k 29 Z0 Z0, _, rfl, _, x, C 22, some p, _, _, _, rfl, rfl, s1 _ _ hx, hd s1, T.xf.x, T.xf.k 21 Z0 Z0, by show 4 <= sizeLine; decide, fun l2 hl2 => ?_⟩
  refine ⟨l1, l2, _, _, rfl, rfl, (aB.new hl2) _ _ k1, ao, by show 8 <= sizeLine; decide, fun l3 hl3 => ?_⟩
  have s3 := (s1.put hl2 (o := .lst [V.bl false, V.bl false, V.bl false, V.bl false])).put hl3 (o := .lst ([V.bl false, V.bl false, V.bl false, V.bl false] ++ [V.bl false, V.bl false, V.bl false, V.bl false]))
  have k3 : upd (upd (upd H l1 (.lst [V.bl false, V.bl false, V.bl false, V.bl false])) l2 (.lst [V.bl false, V.bl false, V.bl false, V.bl false])) l3 (.lst ([V.bl false, V.bl false, V.bl false, V.bl false] ++ [V.bl false, V.bl false, V.bl false, V.bl false])) l3 = some (.lst ([V.bl false, V.bl false, V.bl false, V.bl false] ++ [V.bl false, V.bl false, V.bl false, V.bl false])) := ao
  refine ⟨_, rfl, _, rfl, _, x, C 22, some p, _, _, _, rfl, rfl, s3 _ _ hx, hd s3, T.xf.x, T.xf.k 30 Z0 Z0, _, rfl, _, x, C 22, some p, _, _, _, rfl, rfl, s3 _ _ hx, hd s3, T.xf.x, T.xf.k 31 Z0 Z0, _, rfl, _, x, C 22, some p, _, _, _, rfl, rfl, s3 _ _ hx, hd s3, T.xf.x, T.xf.k 32 Z0 Z0, _, rfl, _, x, C 22, some p, _, _, _, rfl, rfl, s3 _ _ hx, hd s3, T.xf.x, T.xf.k 33 Z0 Z0, by show 4 <= sizeLine; decide, fun l4 hl4 => ?_⟩
  refine ⟨l3, l4, _, _, rfl, rfl, (aB.new hl4) _ _ k3, ao, by show 12 <= sizeLine; decide, fun l5 hl5 => ?_⟩
  exact ⟨_, rfl, l5, _, rfl, .inl (SqL.of ao), rfl, rfl, q _ ((s3.put hl4).put hl5)⟩
theorem nG (T : Tx K mg C) (F : Fun K "_law_refused" "_law_refused" gM f fd) : aO P w K mg base CX0 10 f fd lE (o9 K) := by
 obtain ⟨fap, dap, Aap⟩ := T.aap
 have Gap : aO P w K mg base (CX1 P w) 9 fap dap jg (FJ K C) := rQ T Aap.F
 obtain ⟨fa7, da7, Aa7⟩ := T.aa7
 have Ga7 : qC P w K mg base 1 fa7 da7 tM (za C) := xG T Aa7.F
 obtain ⟨faj, daj, Aaj⟩ := T.aaj
 have GH_law_whole : qC P w K mg base 1 faj daj oE Iz := vQ T Aaj.F
 refine F.oq vU fun _ _ _ _ H _ Q E hr h => ?_
 ·obtain ⟨v, rfl, h, q⟩ := h
  have hr1 : bh 1 _ := hr.mono Z0
  have hr9 : bh 9 _ := hr
  refine ⟨_, QSs.h (au (HW (i := 1) T.x_HouseError T.c_HouseError vU.nd rfl rfl rfl rfl (fun pins E W hw => (az (jL (f9 Aap Gap hr9 hw (aj (pv 0) ak))))) aL (fun x pins => (au (bc (PW.pt (dw (cH (bF (aF (bK (K := K) rfl) Z3 T.inst boot_isinstance (aj (pv 1) (aj (dG T.c_NoText) ak))))) (dw (cH (bF (aF (bK (K := K) rfl) Z3 T.inst boot_isinstance (aj (pv 1) (aj (cz (v := .ty "ValueError") Z3 T.t_ValueError sG rfl) ak))))) (eN (bF (G4 Aa7 Ga7 hr1 (aj (pv 1) ak))))))) (az (aD fK)) aL)
   (az (aD (cI (G4 Aaj GH_law_whole hr1 (aj (zU (K := K) rfl (pv 1) rfl) ak)) (eH (bJ bw (zU (K := K) rfl (pv 1) rfl) aq (aH _)))))))))
   (az (aD fK))), ?_⟩
  rcases h with ⟨z, rfl, hz, nr⟩ | nt
  ·refine ⟨_, rfl, _, rfl, .inl ⟨z, rfl, hz, fun r g e => absurd ⟨r, g, e⟩ nr, fun _ x p H' s' hx0 ex ep => ?_⟩⟩
   have hd : ∀ {H2 : Hp}, aB H' H2 -> ∀ p', some p = some p' -> ∃ fs, H2 p' = some (XdO p' fs) := fun s p' e => ⟨_, by cases e; exact s _ _ ep⟩
   refine ⟨x, C 22, some p, rfl, ex, T.xf.s22, ?_⟩
   refine ⟨_, rfl, _, x, C 22, some p, _, _, _, rfl, rfl, ex, hd (aB.refl _), T.xf.x, T.xf.k 22 Z0 Z0, _, rfl, bA ?_⟩
   refine ⟨_, rfl, _, x, C 22, some p, _, _, _, rfl, rfl, ex, hd (aB.refl _), T.xf.x, T.xf.v, _, rfl, bA ?_⟩
   refine ⟨_, rfl, x, p, 0, rfl, ex, ep, fun H2 s2 => ⟨_, rfl, bA ?_⟩⟩
   refine ⟨_, rfl, _, x, C 22, p, _, _, rfl, s2 _ _ ex, s2 _ _ ep, T.xf.x, T.xf.a, rfl, 0, rfl, fun H3 s3 => ⟨_, rfl, jo ?_⟩⟩
   exact ⟨_, rfl, _, x, C 22, p, _, _, rfl, s3 _ _ (s2 _ _ ex), s3 _ _ (s2 _ _ ep), T.xf.x, T.xf.a, rfl, rfl, q H3 (s'.trans (s2.trans s3))⟩
  ·refine ⟨_, rfl, _, rfl, .inr ⟨nt, fun x p H' s' hx0 ex ep => ?_⟩⟩
   have hd : ∀ {H2 : Hp}, aB H' H2 -> ∀ p', some p = some p' -> ∃ fs, H2 p' = some (XdO p' fs) := fun s p' e => ⟨_, by cases e; exact s _ _ ep⟩
   refine ⟨x, C 22, some p, rfl, ex, T.xf.s22, ?_⟩
   refine ⟨_, rfl, _, x, C 22, some p, _, _, _, rfl, rfl, ex, hd (aB.refl _), T.xf.x, T.xf.k 22 Z0 Z0, _, rfl, bA ?_⟩
   refine ⟨_, rfl, _, x, C 22, some p, _, _, _, rfl, rfl, ex, hd (aB.refl _), T.xf.x, T.xf.v, _, rfl, bA ?_⟩
   refine ⟨_, rfl, x, p, 0, rfl, ex, ep, fun H2 s2 => ⟨_, rfl, bA ?_⟩⟩
   refine ⟨_, rfl, _, x, C 22, p, _, _, rfl, s2 _ _ ex, s2 _ _ ep, T.xf.x, T.xf.a, rfl, 0, rfl, fun H3 s3 => ⟨_, rfl, jo ?_⟩⟩
   exact ⟨_, rfl, _, x, C 22, p, _, _, rfl, s3 _ _ (s2 _ _ ex), s3 _ _ (s2 _ _ ep), T.xf.x, T.xf.a, rfl, rfl, q H3 (s'.trans (s2.trans s3))⟩
theorem ym (T : Tx K mg C) (F : Fun K "_law_taken" "_law_taken" jQ f fd) : aO P w K mg base CX0 11 f fd tU zq := by
 obtain ⟨fba, dba, Aba⟩ := T.aba
 have Gba : aO P w K mg base CX0 5 fba dba oh Dk := sJ T Aba.F
 obtain ⟨fbq, dbq, Abq⟩ := T.abq
 have Gbq : aO P w K mg base CX0 5 fbq dbq Jj (Di C) := Fi T Abq.F
 obtain ⟨fag, dag, Aag⟩ := T.aag
 have Gag : aO P w K mg base CX0 10 fag dag lE (o9 K) := nG T Aag.F
 obtain ⟨fap, dap, Aap⟩ := T.aap
 have Gap : aO P w K mg base (CX1 P w) 9 fap dap jg (FJ K C) := rQ T Aap.F
 refine F.oq Du fun _ _ _ _ H _ Q E hr h => ?_
 ·obtain ⟨z, rfl, hz, q⟩ := h
  have hr5 : bh 5 _ := hr.mono Z0
  have hr9 : bh 9 _ := hr.mono Z0
  have hr10 : bh 10 _ := hr
  refine ⟨_, QSs.h (au (bz (i := 1) Du.nd rfl (Or.inl rfl) (aU Aba Gba hr5 (aj (pv 0) ak)))
   (au (bc (aG yE (pv 1) dM (aH _)) (az (aD (aU Aag Gag hr10 (aj (pv 0) ak)))) aL)
   (az (aD (aU Abq Gbq hr5 (aj (f9 Aap Gap hr9 JR (aj (pv 0) ak)) (aj (pv 1) ak))))))), ?_⟩
  refine ⟨_, rfl, z, rfl, hz, fun r g e v H1 s1 rt => ?_, fun nr H1 s1 => ?_⟩
  ·obtain ⟨lt, tg⟩ := rt.tg g
   obtain ⟨p, aa, ww, rfl, hp, _⟩ := id tg
   refine ⟨_, rfl, rfl, _, rfl, aM (decide_eq_false Z7) ?_⟩
   refine ⟨_, rfl, _, rfl, .inl ⟨z, rfl, hz, fun r2 g2 e2 a l H2 s2 ha hl ra => ?_, fun nr => absurd ⟨r, g, e⟩ nr⟩⟩
   exact ⟨_, rfl, a, l, _, lt, r, rfl, Ff g g2 (e2.symm.trans e) ra, tg.same s2, g, fun H3 s3 => q H3 (s1.trans (s2.trans s3))⟩
  ·refine ⟨_, rfl, rfl, _, rfl, bu (decide_eq_true rfl) ?_⟩
   exact ⟨_, rfl, .str z, rfl, .inl ⟨z, rfl, hz, nr⟩, fun H2 s2 => q H2 (s1.trans s2)⟩
theorem La (T : Tx K mg C) (F : Fun K "law" "law" Gr f fd) : aO P w K mg base CX0 12 f fd J7 (Df K) := by
 obtain ⟨fbj, dbj, Abj⟩ := T.abj
 have Gbj : aO P w K mg base CX0 1 fbj dbj yh (Cz K) := JN Abj.F T.len
 obtain ⟨fan, dan, Aan⟩ := T.aan
 have Gan : aO P w K mg base CX0 3 fan dan uM yK := rK T Aan.F
 obtain ⟨faq, daq, Aaq⟩ := T.aaq
 have Gaq : aO P w K mg base CX0 11 faq daq tU zq := ym T Aaq.F
 obtain ⟨fbm, dbm, Abm⟩ := T.abm
 have Gbm : aO P w K mg base CX0 6 fbm dbm Do Kp := Ba T Abm.F
 obtain ⟨fa5, da5, Aa5⟩ := T.aa5
 have Ga5 : aO P w K mg base CX0 2 fa5 da5 qL zX := vC T Aa5.F
 obtain ⟨fa1, da1, Aa1⟩ := T.aa1
 have Ga1 : aO P w K mg base CX0 2 fa1 da1 ql yW := vG T Aa1.F
 obtain ⟨faa, daa, Aaa⟩ := T.aaa
 have Gaa : aO P w K mg base CX0 1 faa daa gh jW := iH Aaa.F
 obtain ⟨fag, dag, Aag⟩ := T.aag
 have Gag : aO P w K mg base CX0 10 fag dag lE (o9 K) := nG T Aag.F
 obtain ⟨fae, dae, Aae⟩ := T.aae
 have Gae : aO P w K mg base CX0 3 fae dae lO pQ := iW T Aae.F
 obtain ⟨fab, dab, Aab⟩ := T.aab
 have Gab : aO P w K mg base CX0 1 fab dab rZ v9 := uN Aab.F
 refine F.oq rM fun _ _ _ _ H _ Q E hr h => ?_
 ·obtain ⟨a, ns, rfl, hS, hlen, q⟩ := h
  have hr1 : bh 1 _ := hr.mono Z0
  have hr2 : bh 2 _ := hr.mono Z0
  have hr3 : bh 3 _ := hr.mono Z0
  have hr6 : bh 6 _ := hr.mono Z0
  have hr10 : bh 10 _ := hr.mono Z0
  have hr11 : bh 11 _ := hr
  refine J9 ((au (nq PassesOwn.never rfl (lA Z3 T.range (aj (aF (DR rfl) Z3 T.max PyProof.Rows.boot_max (aj aq (aj (aF (Ek rfl) Z3 T.min PyProof.Rows.boot_min (aj (aF aY Z3 T.len boot_len (aj (pv 0) ak)) (aj aq ak))) ak))) ak)) (bj (i := 1) rM.nd rfl (Or.inl rfl))
   (au (bz (i := 2) rM.nd rfl (Or.inl rfl) (aU Abj Gbj hr1 (aj (pv 0) (aj (pv 1) ak))))
   (au (bz (i := 3) rM.nd rfl (Or.inl rfl) (aU Aan Gan hr3 (aj (aU Abm Gbm hr6 (aj (pv 2) (aj (aU Aae Gae hr3 (aj (aU Aab Gab hr1 (aj (pv 2) (aj aq ak))) ak)) ak))) ak)))
   (au (bz (i := 4) rM.nd rfl (Or.inl rfl) (dU plainAttrs_str slot_str_join type_str_join m6 aA (aj (aU Aa5 Ga5 hr2 (aj (dU plainAttrs_str slot_str_split type_str_split gW (pv 3) (aj aA ak)) (aj (pv 2) ak))) ak)))
   (au (nq PassesOwn.never rfl (gG (bC (aj (aU Aa1 Ga1 hr2 (aj (pv 3) (aj (pv 2) ak))) (aj (pv 4) (aj (aU Aa1 Ga1 hr2 (aj (pv 4) (aj (aU Aab Gab hr1 (aj (pv 2) (aj aq ak))) ak))) (aj (pv 3) ak)))))) (bj (i := 5) rM.nd rfl (Or.inl rfl))
   (az (bc (cH (bF (aU Aaq Gaq hr11 (aj (pv 5) ak)))) (az (aD fK)) aL)))
   (au (Cq (i := 6) rM.nd rfl (Or.inl rfl) (J5 aP (Cy (aV dM (aV aq (aV fK (aV (bC (aj aA (aj aA ak))) (aV (cR (aj aA ak)) (aV Hg (aV aq (aV (bC ak) (aV (wF rF aq) (aV (bC (aj aA ak)) qN))))))))))) (aU Aaa Gaa hr1 (aj (pv 2) (aj aq (aj aq ak))))))
   (az (bc (cH (bF (aU Aag Gag hr10 (aj (pv 6) ak)))) (az (aD fK)) aL))))))))
   (au (nq PassesOwn.never rfl (gG (xO (aV aA (aV aA (aV aA (aV aA (aV aA (aV aA (aV aA (aV aA qN)))))))))) (bj (i := 3) rM.nd rfl (Or.inl rfl))
   (az (bc (cH (bF (aU Aag Gag hr10 (aj (pv 3) ak)))) (az (aD fK)) aL)))
   (az (aD (cI (aU Aaq Gaq hr11 (aj aA ak)) (cI (aU Aaq Gaq hr11 (aj aA ak)) (eH (aU Aaq Gaq hr11 (aj aA ak)))))))))) ?_
  refine ⟨_, rfl, a, _, rfl, .inl hS, _, _, rfl, _, _, rfl, _, rfl, ?_, ?_, ?_⟩
  ·split <;> split <;> omega
  ·rw [length_map]; split <;> split <;> omega
  refine DX (fun i σ H2 => ∃ v1 v2 v3 v4 v5 v6, σ = [some (.ref a), v1, v2, v3, v4, v5, v6] /\ aB H H2) ⟨none, none, none, none, none, none, rfl, aB.refl _⟩ ?_ ?_
  ·rintro i σ H2 hi ⟨v1, v2, v3, v4, v5, v6, rfl, sm⟩
   refine ⟨_, rfl, _, rfl, a, ns, 0 + (i : Int), rfl, sm.seq hS, Z1, fun H3 s3 => ?_⟩
   generalize Dd ns (0 + (i : Int)) = c
   refine ⟨_, rfl, _, rfl, c, 36, rfl, Z0, Z0, fun H4 s4 => ⟨_, rfl, fun z0 hz H5 s5 => ⟨c, z0, rfl, hz, fun v lt H6 r hg s6 hlt rt => ?_⟩⟩⟩
   refine ⟨v, lt, r, rfl, rt.tg, hg, fun H7 s7 => ?_⟩
   have tl := EY hg
   generalize cG r = z at tl
   have s07 : aB H H7 := sm.trans (s3.trans (s4.trans (s5.trans (s6.trans s7))))
   refine ⟨rfl, _, rfl, rfl, _, _, rfl, rfl, ou, le_trans (show z.length + 2 <= 6002 by omega) Z0, fun p hp => ⟨_, rfl, p, _, c, rfl, ao, (by rw [blank_eq]; exact nF _ _), by rw [Eo]; omega, fun p2 ys H8 s8 hy ht => ?_⟩⟩
   have ty := Ce ys
   refine ⟨_, p2, ys, rfl, rfl, .inl (SqL.of hy), by unfold tot at ht; rw [uh]; omega, ?_⟩
   have jl : (Txt.join (" " : Str) ys).length <= 5800 := le_trans Jc ht
   generalize Txt.join (" " : Str) ys = y at jl
   have s08 : aB H H8 := s07.trans ((aB.new hp).trans s8)
   clear hy ht ty s8 hp rt
   refine ⟨_, rfl, _, rfl, z, c, rfl, Z1, fun y1 H9 l9 s9 => ⟨_, rfl, _, rfl, _, rfl, c, 34, rfl, Z0, Z0, fun H10 s10 => ⟨y, _, rfl, Z1, fun y2 H11 l11 s11 => ⟨_, rfl, by show 4 <= sizeLine; decide, fun A hA => ?_⟩⟩⟩⟩
   have hA2 : upd H11 A (.lst ([y1, y, y2, z].map V.str)) A = some (.lst ([y1, y, y2, z].map V.str)) := ao
   have s12 : aB H (upd H11 A (.lst ([y1, y, y2, z].map V.str))) := (s08.trans (s9.trans (s10.trans s11))).put hA
   have h4 : ∀ u ∈ [y1, y, y2, z], u.length <= 6000 := fun u hu => by
    simp only [mem_cons, not_mem_nil, or_false] at hu
    rcases hu with rfl | rfl | rfl | rfl <;> omega
   refine ⟨A, rfl, ⟨_, SqL.of hA2⟩, ?_⟩
   refine qD (xs := [y1, y, y2, z].map V.str) (fun j σ H' => ∃ w1 w3 w4 w5 w6, σ = [some (.ref a), w1, some (.int c), w3, w4, w5, w6] /\ aB H H' /\ H' A = some (.lst ([y1, y, y2, z].map V.str))) ⟨_, _, _, _, _, rfl, s12, hA2⟩ ?_ ?_ ?_
   ·rintro j σ H' _ ⟨w1, w3, w4, w5, w6, rfl, sj, hj⟩
    exact SqL.of hj
   ·rintro j x σ H13 hx ⟨w1, w3, w4, w5, w6, rfl, sj, hj⟩
    obtain ⟨u, hu, rfl⟩ := mem_map.mp (mem_of_getElem? hx)
    exact ⟨_, rfl, u, rfl, h4 u hu, fun H14 s14 => ⟨_, rfl, bA ⟨_, _, _, _, _, rfl, sj.trans s14, s14 _ _ hj⟩⟩⟩
   ·rintro σ H13 ⟨w1, w3, w4, w5, w6, rfl, s13, hj⟩
    refine ⟨by show 2 <= sizeLine; decide, fun p1 hp1 => ⟨by show 1 <= sizeLine; decide, fun p2 hp2 => ?_⟩⟩
    refine fun p3 hp3 => ⟨by show 0 <= sizeLine; decide, fun p4 hp4 => ⟨_, rfl, by show 1 <= sizeLine; decide, fun p5 hp5 => ⟨by show 10 <= sizeLine; decide, fun A2 hA2 => ?_⟩⟩⟩
    refine ⟨_, rfl, c, 15, 10, rfl, Z0, Z0, Z0, fun H14 s14 => ?_⟩
    have s0e : aB H H14 := ((((((s13.put hp1).put hp2).put hp3).put hp4).put hp5).put hA2).trans s14
    obtain ⟨v, ev, hv⟩ := zM (xs := [V.non, .int 5, .bl true, .ref p1, .ref p2, .ref p3, .int 0, .ref p4, .int (-1), .ref p5]) (cP c 15 (m := 10) Z0) (cN c 15 (m := 10) Z0)
    refine ⟨A2, _, _, v, rfl, rfl, SqL.of (s14 _ _ ao), ev, ?_⟩
    refine ⟨_, rfl, v, rfl, .inr ?_, fun H15 s15 => ⟨_, rfl, bA ⟨_, _, _, _, _, _, rfl, s0e.trans s15⟩⟩⟩
    simp only [mem_cons, not_mem_nil, or_false] at hv
    rcases hv with rfl | rfl | rfl | rfl | rfl | rfl | rfl | rfl | rfl | rfl
    ·exact Hm
    ·exact uA
    ·exact Ik
    ·exact vg (s14 _ _ ((aB.new hA2) _ _ ((aB.new hp5) _ _ ((aB.new hp4) _ _ ((aB.new hp3) _ _ ((aB.new hp2) _ _ ao))))))
    ·exact Fy (s14 _ _ ((aB.new hA2) _ _ ((aB.new hp5) _ _ ((aB.new hp4) _ _ ((aB.new hp3) _ _ ao)))))
    ·exact Jf (s14 _ _ ((aB.new hA2) _ _ ((aB.new hp5) _ _ ((aB.new hp4) _ _ ao))))
    ·exact uA
    ·exact vg (s14 _ _ ((aB.new hA2) _ _ ((aB.new hp5) _ _ ao)))
    ·exact uA
    ·exact vg (s14 _ _ ((aB.new hA2) _ _ ao))
  ·rintro σ H2 ⟨v1, v2, v3, v4, v5, v6, rfl, sm⟩
   refine ⟨by show 8 <= sizeLine; decide, fun A hA => ?_⟩
   have hA2 : upd H2 A (.lst (no8.map V.str)) A = some (.lst (no8.map V.str)) := ao
   refine ⟨A, rfl, ⟨_, SqL.of hA2⟩, ?_⟩
   refine qD (xs := no8.map V.str) (fun j σ H' => ∃ w1 w2 w3 w4 w5 w6, σ = [some (.ref a), w1, w2, w3, w4, w5, w6] /\ H' A = some (.lst (no8.map V.str))) ⟨_, _, _, _, _, _, rfl, hA2⟩ ?_ ?_ ?_
   ·rintro j σ H' _ ⟨w1, w2, w3, w4, w5, w6, rfl, sj⟩
    exact SqL.of sj
   ·rintro j x σ H13 hx ⟨w1, w2, w3, w4, w5, w6, rfl, sj⟩
    obtain ⟨u, hu, rfl⟩ := mem_map.mp (mem_of_getElem? hx)
    obtain ⟨hul, hur⟩ := Mh hu
    exact ⟨_, rfl, _, rfl, .inl ⟨u, rfl, hul, hur⟩, fun H14 s14 => ⟨_, rfl, bA ⟨_, _, _, _, _, _, rfl, s14 _ _ sj⟩⟩⟩
   ·rintro σ H13 ⟨w1, w2, w3, w4, w5, w6, rfl, sj⟩
    exact ⟨_, rfl, Z4, fun H14 s14 => ⟨_, rfl, jo ⟨_, rfl, Z4, fun H15 s15 => ⟨_, rfl, jo ⟨_, rfl, Z4, fun H16 s16 => q H16⟩⟩⟩⟩⟩
end
def FI (K : Frag) (x : Str) (st : Stmt) : Prop := ∃ f fd, nsIn K mainGlobals x = some (some (.ref f)) /\ Fun K x x st f fd
theorem fi {K : Frag} {x : Str} {st : Stmt} {f : Addr} {oc : Value} {od an : Option Addr} {osl : Array (Option Value)} {kV doc pm cdv ct : Value} (a : nsIn K mainGlobals x = some (some (.ref f))) (l : K.lookup f = some ⟨oc, od, .func (fnOf x x (dg st) (cu st) (aC st) .none kV doc pm an cdv ct), osl⟩) (c : codeIn K cdv x = true) (k : keepIn K (.ref f) = true) : FI K x st := ⟨f, _, a, Hy l c k⟩
def MI (K : Frag) (g : Addr) (x q : Str) (st : Stmt) : Prop := (∃ fd, Fun K x q st g fd) /\ isFn K (.ref g) = true /\ keepIn K (.ref g) = true
theorem mi {K : Frag} {x q : Str} {st : Stmt} {f : Addr} {oc : Value} {od an : Option Addr} {osl : Array (Option Value)} {kV doc pm cdv ct : Value} (l : K.lookup f = some ⟨oc, od, .func (fnOf x q (dg st) (cu st) (aC st) .none kV doc pm an cdv ct), osl⟩) (c : codeIn K cdv q = true) (k : keepIn K (.ref f) = true) (i : isFn K (.ref f) = true) : MI K f x q st := ⟨⟨_, Hy l c k⟩, i, k⟩
structure CI (K : Frag) (C : Addr) (x : Str) : Prop where
 A : nsIn K mainGlobals x = some (some (.ref C))
 pg : plainGet K C Str.empty = true
 hd : hasDictIn K C = true
 po : plainOver K C = true
 sa : findIn K (.ref C) "__setattr__" = some (some (.builtin "object.__setattr__"))
 mq : makesIn K C = true
 kc : keepIn K (.ref C) = true
 ca : findIn K (.ref C) "__class__" = some (some (.builtin "object.__class__"))
 mo : mroIn K C (.type "object") = some true
 ty : typeIn K (.ref C) = some (.type "type")
 mm : mroIn K C (.ref C) = some true
def BA (x q : Str) (st : Stmt) (ps : List Str) (n : Nat) : Prop := ∀ (kV doc pm : Value) (an : Option Addr) (cdv ct : Value) (us : List Value), us.length = n -> bindArgs (fnOf x q (dg st) (cu st) (aC st) .none kV doc pm an cdv ct) ⟨us, []⟩ = pure (ps.zip us)
theorem ba1 {x q : Str} {st : Stmt} {ps : List Str} (h : ∀ (kV doc pm : Value) (an : Option Addr) (cdv ct a : Value), bindArgs (fnOf x q (dg st) (cu st) (aC st) .none kV doc pm an cdv ct) ⟨[a], []⟩ = pure (ps.zip [a]) := by exact fun _ _ _ _ _ _ _ => rfl) : BA x q st ps 1 := fun _ _ _ _ _ _ us hl => by obtain ⟨a, rfl⟩ := M9 hl; exact h ..
theorem ba2 {x q : Str} {st : Stmt} {ps : List Str} (h : ∀ (kV doc pm : Value) (an : Option Addr) (cdv ct a b : Value), bindArgs (fnOf x q (dg st) (cu st) (aC st) .none kV doc pm an cdv ct) ⟨[a, b], []⟩ = pure (ps.zip [a, b]) := by exact fun _ _ _ _ _ _ _ _ => rfl) : BA x q st ps 2 := fun _ _ _ _ _ _ us hl => by obtain ⟨a, b, rfl⟩ := TF hl; exact h ..
theorem ba3 {x q : Str} {st : Stmt} {ps : List Str} (h : ∀ (kV doc pm : Value) (an : Option Addr) (cdv ct a b c : Value), bindArgs (fnOf x q (dg st) (cu st) (aC st) .none kV doc pm an cdv ct) ⟨[a, b, c], []⟩ = pure (ps.zip [a, b, c]) := by exact fun _ _ _ _ _ _ _ _ _ => rfl) : BA x q st ps 3 := fun _ _ _ _ _ _ us hl => by obtain ⟨a, b, c, rfl⟩ := RK hl; exact h ..
theorem ba4 {x q : Str} {st : Stmt} {ps : List Str} (h : ∀ (kV doc pm : Value) (an : Option Addr) (cdv ct a b c d : Value), bindArgs (fnOf x q (dg st) (cu st) (aC st) .none kV doc pm an cdv ct) ⟨[a, b, c, d], []⟩ = pure (ps.zip [a, b, c, d]) := by exact fun _ _ _ _ _ _ _ _ _ _ => rfl) : BA x q st ps 4 := fun _ _ _ _ _ _ us hl => by obtain ⟨a, b, c, d, rfl⟩ := Yo hl; exact h ..
theorem fat {K : Frag} {h : Heap} {mg : MG} {x : Str} {st : Stmt} {ps : List Str} (X : K.In h) (G : h.Ns mainGlobals mg) (b : BA x x st ps ps.length) (i : FI K x st) : ∃ f fd, FnAt K mg x st ps f fd := by
 obtain ⟨f, fd, a, F⟩ := i
 exact ⟨f, fd, F, F.binds b, mg_of X G a⟩
theorem ji {K : Frag} {g : Addr} {x q : Str} {st : Stmt} {ps : List Str} {p : Addr -> Prop} (b : BA x q st ps ps.length) (i : MI K g x q st) (z : isFn K (.ref g) = true -> keepIn K (.ref g) = true -> p g) : ∃ f fd, MAt K x q st ps f fd /\ p f := by
 obtain ⟨⟨fd, F⟩, i1, i2⟩ := i
 exact ⟨g, fd, ⟨F, F.binds b⟩, z i1 i2⟩
theorem Ma {l : OpenLaw} {w : World} {K : Frag} {h : Heap} {mg : MG} {fa g0 g1 g2 g3 g4 g5 g6 g7 g8 g9 g10 g11 g12 g13 g14 g15 g16 g17 g18 g19 g20 g21 g22 C0 C1 C2 C3 C4 C5 C6 gx22 C21 C22 C23 C24 C25 C26 C27 C28 C29 C30 C31 C32 C33 C20 N20 : Addr} (X : K.In h) (G : h.Ns mainGlobals mg) (hfa : mg "law" = some (.ref fa))
  {nm20 qn20 : Str} {bs20 sub20 : List Value} {sn20 : List Str} {ab20 : Bool} {col20 : Option Bool} {dd20 : Option Addr} {x020 x120 x220 x320 x520 : Option Value} {oN : Value} {dN : Option Addr} {esN : Array DictEntry} {nN : Nat} {slN : Array (Option Value)}
  {tk0 tk1 tk2 tk3 tk4 tk5 tk6 : Tok}
  (h0 : FI K "show_term" jK)
  (h1 : FI K "show_expr" jC)
  (h2 : FI K "is_name" oF)
  (h3 : FI K "are_names" jD)
  (h4 : FI K "is_address" iU)
  (h5 : FI K "is_number" jP)
  (h6 : FI K "read_path" jJ)
  (h7 : FI K "read_term" jH)
  (h8 : FI K "read_sign" jT)
  (h9 : FI K "read_expr" jM)
  (h10 : FI K "has_call" mR)
  (h11 : FI K "names_expr" jb)
  (h12 : FI K "names_address" dY)
  (h13 : FI K "names_word" iD)
  (h14 : FI K "terms_from" iI)
  (h15 : FI K "deed_of" n8)
  (h16 : FI K "row_of" pW)
  (h17 : FI K "row_at" pJ)
  (h18 : FI K "read_row" mW)
  (h19 : FI K "_law_cell" mC)
  (h20 : FI K "_law_sub" nU)
  (h21 : FI K "_law_number" iM)
  (h22 : FI K "_law_pick" jf)
  (h23 : FI K "_law_name" mO)
  (h24 : FI K "_law_label" ju)
  (h25 : FI K "_law_address" gJ)
  (h26 : FI K "_law_term" mZ)
  (h27 : FI K "_law_terms" jF)
  (h28 : FI K "_law_word" lJ)
  (h29 : FI K "_law_text" lU)
  (h30 : FI K "_law_row" oK)
  (h31 : FI K "_law_said" m5)
  (h32 : FI K "_law_whole" gR)
  (h33 : FI K "_law_term_is" gq)
  (h34 : FI K "_law_terms_are" d7)
  (h35 : FI K "_law_is" pM)
  (h36 : FI K "_law_says" mD)
  (h37 : FI K "_law_is_name" gP)
  (h38 : FI K "_law_is_address" dF)
  (h39 : FI K "_law_read_word" dZ)
  (h40 : FI K "_law_read" mF)
  (h41 : FI K "_law_read_told" dW)
  (h42 : FI K "_law_read_row" fJ)
  (h43 : FI K "_law_worded" iC)
  (h44 : FI K "_law_signed" iZ)
  (h45 : FI K "_law_other" jw)
  (h46 : FI K "_law_refused" gM)
  (h47 : FI K "_law_taken" jQ)
  (h48 : FI K "law" Gr)
  (D0 : CI K C0 "Let")
  (D1 : CI K C1 "Deed")
  (D2 : CI K C2 "Draw")
  (D3 : CI K C3 "Late")
  (D4 : CI K C4 "Take")
  (D5 : CI K C5 "Need")
  (D6 : CI K C6 "Row")
  (nf0x0 : findIn K (.ref C0) "name" = some none)
  (nf0x1 : findIn K (.ref C0) "terms" = some none)
  (nf0x2 : findIn K (.ref C0) "address" = some none)
  (nf0x3 : findIn K (.ref C0) "word" = some none)
  (mm0x1 : mroIn K C0 (.ref C1) = some false)
  (mm0x2 : mroIn K C0 (.ref C2) = some false)
  (mm0x3 : mroIn K C0 (.ref C3) = some false)
  (mm0x4 : mroIn K C0 (.ref C4) = some false)
  (mm0x5 : mroIn K C0 (.ref C5) = some false)
  (mm0x6 : mroIn K C0 (.ref C6) = some true)
  (nf1x0 : findIn K (.ref C1) "name" = some none)
  (nf1x1 : findIn K (.ref C1) "terms" = some none)
  (nf1x2 : findIn K (.ref C1) "address" = some none)
  (nf1x3 : findIn K (.ref C1) "word" = some none)
  (mm1x0 : mroIn K C1 (.ref C0) = some false)
  (mm1x2 : mroIn K C1 (.ref C2) = some false)
  (mm1x3 : mroIn K C1 (.ref C3) = some false)
  (mm1x4 : mroIn K C1 (.ref C4) = some false)
  (mm1x5 : mroIn K C1 (.ref C5) = some false)
  (mm1x6 : mroIn K C1 (.ref C6) = some true)
  (nf2x0 : findIn K (.ref C2) "name" = some none)
  (nf2x1 : findIn K (.ref C2) "terms" = some none)
  (nf2x2 : findIn K (.ref C2) "address" = some none)
  (nf2x3 : findIn K (.ref C2) "word" = some none)
  (mm2x0 : mroIn K C2 (.ref C0) = some false)
  (mm2x1 : mroIn K C2 (.ref C1) = some false)
  (mm2x3 : mroIn K C2 (.ref C3) = some false)
  (mm2x4 : mroIn K C2 (.ref C4) = some false)
  (mm2x5 : mroIn K C2 (.ref C5) = some false)
  (mm2x6 : mroIn K C2 (.ref C6) = some true)
  (nf3x0 : findIn K (.ref C3) "name" = some none)
  (nf3x1 : findIn K (.ref C3) "terms" = some none)
  (nf3x2 : findIn K (.ref C3) "address" = some none)
  (nf3x3 : findIn K (.ref C3) "word" = some none)
  (mm3x0 : mroIn K C3 (.ref C0) = some false)
  (mm3x1 : mroIn K C3 (.ref C1) = some false)
  (mm3x2 : mroIn K C3 (.ref C2) = some false)
  (mm3x4 : mroIn K C3 (.ref C4) = some false)
  (mm3x5 : mroIn K C3 (.ref C5) = some false)
  (mm3x6 : mroIn K C3 (.ref C6) = some true)
  (nf4x0 : findIn K (.ref C4) "name" = some none)
  (nf4x1 : findIn K (.ref C4) "terms" = some none)
  (nf4x2 : findIn K (.ref C4) "address" = some none)
  (nf4x3 : findIn K (.ref C4) "word" = some none)
  (mm4x0 : mroIn K C4 (.ref C0) = some false)
  (mm4x1 : mroIn K C4 (.ref C1) = some false)
  (mm4x2 : mroIn K C4 (.ref C2) = some false)
  (mm4x3 : mroIn K C4 (.ref C3) = some false)
  (mm4x5 : mroIn K C4 (.ref C5) = some false)
  (mm4x6 : mroIn K C4 (.ref C6) = some true)
  (nf5x0 : findIn K (.ref C5) "name" = some none)
  (nf5x1 : findIn K (.ref C5) "terms" = some none)
  (nf5x2 : findIn K (.ref C5) "address" = some none)
  (nf5x3 : findIn K (.ref C5) "word" = some none)
  (mm5x0 : mroIn K C5 (.ref C0) = some false)
  (mm5x1 : mroIn K C5 (.ref C1) = some false)
  (mm5x2 : mroIn K C5 (.ref C2) = some false)
  (mm5x3 : mroIn K C5 (.ref C3) = some false)
  (mm5x4 : mroIn K C5 (.ref C4) = some false)
  (mm5x6 : mroIn K C5 (.ref C6) = some true)
  (nf6x0 : findIn K (.ref C6) "name" = some none)
  (nf6x1 : findIn K (.ref C6) "terms" = some none)
  (nf6x2 : findIn K (.ref C6) "address" = some none)
  (nf6x3 : findIn K (.ref C6) "word" = some none)
  (mm6x0 : mroIn K C6 (.ref C0) = some false)
  (mm6x1 : mroIn K C6 (.ref C1) = some false)
  (mm6x2 : mroIn K C6 (.ref C2) = some false)
  (mm6x3 : mroIn K C6 (.ref C3) = some false)
  (mm6x4 : mroIn K C6 (.ref C4) = some false)
  (mm6x5 : mroIn K C6 (.ref C5) = some false)
  (u0x5 : findIn K (.ref C5) "binds" = some (some (.ref g0)))
  (u0x6 : findIn K (.ref C6) "binds" = some (some (.ref g0)))
  (j0 : MI K g0 "binds" "Row.binds" gQ)
  (u1x0 : findIn K (.ref C0) "asked" = some (some (.ref g1)))
  (u1x1 : findIn K (.ref C1) "asked" = some (some (.ref g1)))
  (u1x5 : findIn K (.ref C5) "asked" = some (some (.ref g1)))
  (u1x6 : findIn K (.ref C6) "asked" = some (some (.ref g1)))
  (j1 : MI K g1 "asked" "Row.asked" gF)
  (u2x6 : findIn K (.ref C6) "said" = some (some (.ref g2)))
  (j2 : MI K g2 "said" "Row.said" qj)
  (u3x0 : findIn K (.ref C0) "__init__" = some (some (.ref g3)))
  (j3 : MI K g3 "__init__" "Let.__init__" dH)
  (u4x0 : findIn K (.ref C0) "binds" = some (some (.ref g4)))
  (j4 : MI K g4 "binds" "Let.binds" gA)
  (u5x0 : findIn K (.ref C0) "said" = some (some (.ref g5)))
  (j5 : MI K g5 "said" "Let.said" iu)
  (u6x1 : findIn K (.ref C1) "__init__" = some (some (.ref g6)))
  (j6 : MI K g6 "__init__" "Deed.__init__" cV)
  (u7x1 : findIn K (.ref C1) "binds" = some (some (.ref g7)))
  (j7 : MI K g7 "binds" "Deed.binds" fc)
  (u8x1 : findIn K (.ref C1) "said" = some (some (.ref g8)))
  (j8 : MI K g8 "said" "Deed.said" gK)
  (u9x2 : findIn K (.ref C2) "__init__" = some (some (.ref g9)))
  (j9 : MI K g9 "__init__" "Draw.__init__" cZ)
  (u10x2 : findIn K (.ref C2) "binds" = some (some (.ref g10)))
  (j10 : MI K g10 "binds" "Draw.binds" fQ)
  (u11x2 : findIn K (.ref C2) "asked" = some (some (.ref g11)))
  (j11 : MI K g11 "asked" "Draw.asked" fU)
  (u12x2 : findIn K (.ref C2) "said" = some (some (.ref g12)))
  (j12 : MI K g12 "said" "Draw.said" gO)
  (u13x3 : findIn K (.ref C3) "__init__" = some (some (.ref g13)))
  (j13 : MI K g13 "__init__" "Late.__init__" cY)
  (u14x3 : findIn K (.ref C3) "binds" = some (some (.ref g14)))
  (j14 : MI K g14 "binds" "Late.binds" eZ)
  (u15x3 : findIn K (.ref C3) "asked" = some (some (.ref g15)))
  (j15 : MI K g15 "asked" "Late.asked" fM)
  (u16x3 : findIn K (.ref C3) "said" = some (some (.ref g16)))
  (j16 : MI K g16 "said" "Late.said" gH)
  (u17x4 : findIn K (.ref C4) "__init__" = some (some (.ref g17)))
  (j17 : MI K g17 "__init__" "Take.__init__" dh)
  (u18x4 : findIn K (.ref C4) "binds" = some (some (.ref g18)))
  (j18 : MI K g18 "binds" "Take.binds" fB)
  (u19x4 : findIn K (.ref C4) "asked" = some (some (.ref g19)))
  (j19 : MI K g19 "asked" "Take.asked" fu)
  (u20x4 : findIn K (.ref C4) "said" = some (some (.ref g20)))
  (j20 : MI K g20 "said" "Take.said" gr)
  (u21x5 : findIn K (.ref C5) "__init__" = some (some (.ref g21)))
  (j21 : MI K g21 "__init__" "Need.__init__" dj)
  (u22x5 : findIn K (.ref C5) "said" = some (some (.ref g22)))
  (j22 : MI K g22 "said" "Need.said" gB)
  (A20 : nsIn K mainGlobals "HouseError" = some (some (.ref C20)))
  (B20 : K.lookup C20 = some (excClassObj nm20 qn20 C20 N20 bs20 cJ true sn20 sub20 ab20 col20 dd20 x020 x120 x220 x320 x520 "ValueError.__new__"))
  (X22 : XI K C20 C22 gx22 "NoText")
  (jx22 : MI K gx22 "__init__" "NoText.__init__" gm)
  (A21 : nsIn K mainGlobals "NoExpr" = some (some (.ref C21)))
  (B21 : il K C21 (.ref C20 :: cJ))
  (A23 : nsIn K mainGlobals "Clash" = some (some (.ref C23)))
  (B23 : il K C23 (.ref C20 :: cJ))
  (A24 : nsIn K mainGlobals "Double" = some (some (.ref C24)))
  (B24 : il K C24 (.ref C20 :: cJ))
  (A25 : nsIn K mainGlobals "Fault" = some (some (.ref C25)))
  (B25 : il K C25 (.ref C20 :: cJ))
  (A26 : nsIn K mainGlobals "NoDrop" = some (some (.ref C26)))
  (B26 : il K C26 (.ref C20 :: cJ))
  (A27 : nsIn K mainGlobals "NoName" = some (some (.ref C27)))
  (B27 : il K C27 (.ref C20 :: cJ))
  (A28 : nsIn K mainGlobals "NoPart" = some (some (.ref C28)))
  (B28 : il K C28 (.ref C20 :: cJ))
  (A29 : nsIn K mainGlobals "NoRow" = some (some (.ref C29)))
  (B29 : il K C29 (.ref C20 :: cJ))
  (A30 : nsIn K mainGlobals "Orphan" = some (some (.ref C30)))
  (B30 : il K C30 (.ref C20 :: cJ))
  (A31 : nsIn K mainGlobals "TooMany" = some (some (.ref C31)))
  (B31 : il K C31 (.ref C20 :: cJ))
  (A32 : nsIn K mainGlobals "TooWide" = some (some (.ref C32)))
  (B32 : il K C32 (.ref C20 :: cJ))
  (A33 : nsIn K mainGlobals "Twice" = some (some (.ref C33)))
  (B33 : il K C33 (.ref C20 :: cJ))
  (iE : findIn K (.ref C21) "__init__" = some (some (.builtin "ValueError.__init__")))
  (kE : keepIn K (.ref C21) = true)
  (y1 : specialIn K (.ref C20) "__getattribute__" = some (some (.builtin "type.__getattribute__")))
  (y2 : readsIn K C20 (.type "type") = true)
  (y3 : findCls K (.ref C20) (.type "type") "__init__" = some (.val (.builtin "ValueError.__init__")))
  (NH : K.lookup N20 = some ⟨oN, dN, .dict esN nN, slN⟩)
  (SK : qm esN = true)
  (NI : nsFind esN "__init__" = none)
  (ND : [C20, C21, C22, C23, C24, C25, C26, C27, C28, C29, C30, C31, C32, C33].Nodup)
  (oi : findIn K (.ref C6) "__init__" = some (some (.builtin "object.__init__")))
  (cg : specialIn K (.builtin "object.__class__") "__get__" = some (some (.builtin "getset_descriptor.__get__")))
  (ctk : takesIn K (.builtin "object.__class__") = some true)
  (gc0 : nsIn K mainGlobals "LETTERS" = some (some (.str "abcdefghijklmnopqrstuvwxyz" tk0)))
  (gc1 : nsIn K mainGlobals "MOST_LETTERS" = some (some (.int 8 tk1)))
  (gc2 : nsIn K mainGlobals "MOST_NAMES" = some (some (.int 3 tk2)))
  (gc3 : nsIn K mainGlobals "FIGURES" = some (some (.str "0123456789" tk3)))
  (gc4 : nsIn K mainGlobals "MOST_FIGURES" = some (some (.int 20 tk4)))
  (gc5 : nsIn K mainGlobals "MOST_TERMS" = some (some (.int 6 tk5)))
  (gc6 : nsIn K mainGlobals "MOST_STEPS" = some (some (.int 4 tk6)))
  (z0 : nsIn K mainGlobals "any" = some none)
  (z1 : nsIn K mainGlobals "len" = some none)
  (z2 : nsIn K mainGlobals "range" = some none)
  (z3 : nsIn K mainGlobals "isinstance" = some none)
  (z4 : nsIn K mainGlobals "str" = some none)
  (z5 : nsIn K mainGlobals "int" = some none)
  (z6 : nsIn K mainGlobals "bool" = some none)
  (z7 : nsIn K mainGlobals "list" = some none)
  (z8 : nsIn K mainGlobals "tuple" = some none)
  (z9 : nsIn K mainGlobals "all" = some none)
  (z10 : nsIn K mainGlobals "max" = some none)
  (z11 : nsIn K mainGlobals "min" = some none)
  (z12 : nsIn K mainGlobals "zip" = some none)
  (z13 : nsIn K mainGlobals "ValueError" = some none) :
  ∃ fd : FuncData, (∀ (s : Shared) (v : Value), BindsTo s fd ⟨[v], []⟩ [("_law_script", v)]) /\ ∀ base : Heap, K.In base -> base.Ns mainGlobals mg -> aO l.prog w K mg base CX0 12 fa fd ["_law_script"] (Df K) := by
 have R0 : RCl K C0 := ⟨⟨D0.pg, D0.hd, D0.po, D0.sa⟩, D0.ca, cg, ctk, D0.mo⟩
 have R1 : RCl K C1 := ⟨⟨D1.pg, D1.hd, D1.po, D1.sa⟩, D1.ca, cg, ctk, D1.mo⟩
 have R2 : RCl K C2 := ⟨⟨D2.pg, D2.hd, D2.po, D2.sa⟩, D2.ca, cg, ctk, D2.mo⟩
 have R3 : RCl K C3 := ⟨⟨D3.pg, D3.hd, D3.po, D3.sa⟩, D3.ca, cg, ctk, D3.mo⟩
 have R4 : RCl K C4 := ⟨⟨D4.pg, D4.hd, D4.po, D4.sa⟩, D4.ca, cg, ctk, D4.mo⟩
 have R5 : RCl K C5 := ⟨⟨D5.pg, D5.hd, D5.po, D5.sa⟩, D5.ca, cg, ctk, D5.mo⟩
 have R6 : RCl K C6 := ⟨⟨D6.pg, D6.hd, D6.po, D6.sa⟩, D6.ca, cg, ctk, D6.mo⟩
 have FM : SQ K (fun i => [C0, C1, C2, C3, C4, C5, C6, 0, 0, 0, 0, 0, 0, 0, 0, 0, 0, 0, 0, 0, C20, C21, C22, C23, C24, C25, C26, C27, C28, C29, C30, C31, C32, C33].getD i 0) := ⟨rm R0 R1 R2 R3 R4 R5 R6, fun i j h1 h2 => rm (p := fun i => ∀ j, j <= 6 -> kitOne K (.ref ([C0, C1, C2, C3, C4, C5, C6, 0, 0, 0, 0, 0, 0, 0, 0, 0, 0, 0, 0, 0, C20, C21, C22, C23, C24, C25, C26, C27, C28, C29, C30, C31, C32, C33].getD i 0)) (.ref ([C0, C1, C2, C3, C4, C5, C6, 0, 0, 0, 0, 0, 0, 0, 0, 0, 0, 0, 0, 0, C20, C21, C22, C23, C24, C25, C26, C27, C28, C29, C30, C31, C32, C33].getD j 0)) = some (jV i j)) (rm (aW D0.mm D0.mm D0.mo D0.ty) (aW mm0x1 D1.mm D1.mo D1.ty) (aW mm0x2 D2.mm D2.mo D2.ty) (aW mm0x3 D3.mm D3.mo D3.ty) (aW mm0x4 D4.mm D4.mo D4.ty) (aW mm0x5 D5.mm D5.mo D5.ty) (aW mm0x6 D6.mm D6.mo D6.ty)) (rm (aW mm1x0 D0.mm D0.mo D0.ty) (aW D1.mm D1.mm D1.mo D1.ty) (aW mm1x2 D2.mm D2.mo D2.ty) (aW mm1x3 D3.mm D3.mo D3.ty) (aW mm1x4 D4.mm D4.mo D4.ty) (aW mm1x5 D5.mm D5.mo D5.ty) (aW mm1x6 D6.mm D6.mo D6.ty)) (rm (aW mm2x0 D0.mm D0.mo D0.ty) (aW mm2x1 D1.mm D1.mo D1.ty) (aW D2.mm D2.mm D2.mo D2.ty) (aW mm2x3 D3.mm D3.mo D3.ty) (aW mm2x4 D4.mm D4.mo D4.ty) (aW mm2x5 D5.mm D5.mo D5.ty) (aW mm2x6 D6.mm D6.mo D6.ty)) (rm (aW mm3x0 D0.mm D0.mo D0.ty) (aW mm3x1 D1.mm D1.mo D1.ty) (aW mm3x2 D2.mm D2.mo D2.ty) (aW D3.mm D3.mm D3.mo D3.ty) (aW mm3x4 D4.mm D4.mo D4.ty) (aW mm3x5 D5.mm D5.mo D5.ty) (aW mm3x6 D6.mm D6.mo D6.ty)) (rm (aW mm4x0 D0.mm D0.mo D0.ty) (aW mm4x1 D1.mm D1.mo D1.ty) (aW mm4x2 D2.mm D2.mo D2.ty) (aW mm4x3 D3.mm D3.mo D3.ty) (aW D4.mm D4.mm D4.mo D4.ty) (aW mm4x5 D5.mm D5.mo D5.ty) (aW mm4x6 D6.mm D6.mo D6.ty)) (rm (aW mm5x0 D0.mm D0.mo D0.ty) (aW mm5x1 D1.mm D1.mo D1.ty) (aW mm5x2 D2.mm D2.mo D2.ty) (aW mm5x3 D3.mm D3.mo D3.ty) (aW mm5x4 D4.mm D4.mo D4.ty) (aW D5.mm D5.mm D5.mo D5.ty) (aW mm5x6 D6.mm D6.mo D6.ty)) (rm (aW mm6x0 D0.mm D0.mo D0.ty) (aW mm6x1 D1.mm D1.mo D1.ty) (aW mm6x2 D2.mm D2.mo D2.ty) (aW mm6x3 D3.mm D3.mo D3.ty) (aW mm6x4 D4.mm D4.mo D4.ty) (aW mm6x5 D5.mm D5.mo D5.ty) (aW D6.mm D6.mm D6.mo D6.ty)) i h1 j h2, rm nf0x0 nf1x0 nf2x0 nf3x0 nf4x0 nf5x0 nf6x0, rm nf0x1 nf1x1 nf2x1 nf3x1 nf4x1 nf5x1 nf6x1, rm nf0x2 nf1x2 nf2x2 nf3x2 nf4x2 nf5x2 nf6x2, rm nf0x3 nf1x3 nf2x3 nf3x3 nf4x3 nf5x3 nf6x3⟩
 have XF : Kc K (fun i => [C0, C1, C2, C3, C4, C5, C6, 0, 0, 0, 0, 0, 0, 0, 0, 0, 0, 0, 0, 0, C20, C21, C22, C23, C24, C25, C26, C27, C28, C29, C30, C31, C32, C33].getD i 0) := ⟨MK X22.l X22.e0 X22.e1 X22.e2 X22.e3 cg ctk, X22.e4, Ir B21, Lw X22.l, Uz (Vi X22.l B20) (ni X22.l B21 (di ND (i := 1) (j := 0) rfl rfl Z0) (di ND (i := 1) (j := 2) rfl rfl Z0)) (IW X22.l) (ni X22.l B23 (di ND (i := 3) (j := 0) rfl rfl Z0) (di ND (i := 3) (j := 2) rfl rfl Z0)) (ni X22.l B24 (di ND (i := 4) (j := 0) rfl rfl Z0) (di ND (i := 4) (j := 2) rfl rfl Z0)) (ni X22.l B25 (di ND (i := 5) (j := 0) rfl rfl Z0) (di ND (i := 5) (j := 2) rfl rfl Z0)) (ni X22.l B26 (di ND (i := 6) (j := 0) rfl rfl Z0) (di ND (i := 6) (j := 2) rfl rfl Z0)) (ni X22.l B27 (di ND (i := 7) (j := 0) rfl rfl Z0) (di ND (i := 7) (j := 2) rfl rfl Z0)) (ni X22.l B28 (di ND (i := 8) (j := 0) rfl rfl Z0) (di ND (i := 8) (j := 2) rfl rfl Z0)) (ni X22.l B29 (di ND (i := 9) (j := 0) rfl rfl Z0) (di ND (i := 9) (j := 2) rfl rfl Z0)) (ni X22.l B30 (di ND (i := 10) (j := 0) rfl rfl Z0) (di ND (i := 10) (j := 2) rfl rfl Z0)) (ni X22.l B31 (di ND (i := 11) (j := 0) rfl rfl Z0) (di ND (i := 11) (j := 2) rfl rfl Z0)) (ni X22.l B32 (di ND (i := 12) (j := 0) rfl rfl Z0) (di ND (i := 12) (j := 2) rfl rfl Z0)) (ni X22.l B33 (di ND (i := 13) (j := 0) rfl rfl Z0) (di ND (i := 13) (j := 2) rfl rfl Z0)), Tu X22.l⟩
 have EX : ∀ {C : Addr}, il K C (.ref C20 :: cJ) -> ExC K C := fun {C} l => by
  obtain ⟨_, _, _, _, _, _, _, _, _, _, _, _, _, _, l⟩ := l
  exact Ii B20 NH SK NI l
 have IX22 : ∃ f fd, XIn K C22 "NoText.__init__" gm du f fd := by
  obtain ⟨⟨fd, F⟩, i1, i2⟩ := jx22
  exact ⟨gx22, fd, F, F.binds ba2, X22.e5, i1, X22.kp, Z0⟩
 have TT : Tx K mg (fun i => [C0, C1, C2, C3, C4, C5, C6, 0, 0, 0, 0, 0, 0, 0, 0, 0, 0, 0, 0, 0, C20, C21, C22, C23, C24, C25, C26, C27, C28, C29, C30, C31, C32, C33].getD i 0) := ⟨mg_none_of X G z0, mg_none_of X G z1, mg_none_of X G z2, mg_none_of X G z3, mg_none_of X G z4, mg_none_of X G z5, mg_none_of X G z6, mg_none_of X G z7, mg_none_of X G z8, mg_none_of X G z9, mg_none_of X G z10, mg_none_of X G z11, mg_none_of X G z12, mg_none_of X G z13, ⟨_, mg_of X G gc0⟩, ⟨_, mg_of X G gc1⟩, ⟨_, mg_of X G gc2⟩, ⟨_, mg_of X G gc3⟩, ⟨_, mg_of X G gc4⟩, ⟨_, mg_of X G gc5⟩, ⟨_, mg_of X G gc6⟩, fat X G ba2 h0, fat X G ba1 h1, fat X G ba1 h2, fat X G ba2 h3, fat X G ba1 h4, fat X G ba1 h5, fat X G ba1 h6, fat X G ba2 h7, fat X G ba1 h8, fat X G ba1 h9, fat X G ba1 h10, fat X G ba1 h11, fat X G ba1 h12, fat X G ba1 h13, fat X G ba2 h14, fat X G ba2 h15, fat X G ba1 h16, fat X G ba2 h17, fat X G ba1 h18, fat X G ba2 h19, fat X G ba2 h20, fat X G ba2 h21, fat X G ba3 h22, fat X G ba1 h23, fat X G ba1 h24, fat X G ba1 h25, fat X G ba2 h26, fat X G ba1 h27, fat X G ba1 h28, fat X G ba1 h29, fat X G ba2 h30, fat X G ba1 h31, fat X G ba1 h32, fat X G ba2 h33, fat X G ba2 h34, fat X G ba2 h35, fat X G ba2 h36, fat X G ba1 h37, fat X G ba1 h38, fat X G ba2 h39, fat X G ba1 h40, fat X G ba1 h41, fat X G ba1 h42, fat X G ba2 h43, fat X G ba2 h44, fat X G ba1 h45, fat X G ba1 h46, fat X G ba1 h47, ji ba1 j0 fun i k => ⟨⟨u0x5, i, k⟩, ⟨u0x6, i, k⟩⟩, ji ba1 j1 fun i k => ⟨⟨u1x0, i, k⟩, ⟨u1x1, i, k⟩, ⟨u1x5, i, k⟩, ⟨u1x6, i, k⟩⟩, ji ba1 j2 fun i k => ⟨u2x6, i, k⟩, ji ba3 j3 fun i k => ⟨D0.mq, u3x0, i, D0.kc⟩, ji ba1 j4 fun i k => ⟨u4x0, i, k⟩, ji ba1 j5 fun i k => ⟨u5x0, i, k⟩, ji ba3 j6 fun i k => ⟨D1.mq, u6x1, i, D1.kc⟩, ji ba1 j7 fun i k => ⟨u7x1, i, k⟩, ji ba1 j8 fun i k => ⟨u8x1, i, k⟩, ji ba3 j9 fun i k => ⟨D2.mq, u9x2, i, D2.kc⟩, ji ba1 j10 fun i k => ⟨u10x2, i, k⟩, ji ba1 j11 fun i k => ⟨u11x2, i, k⟩, ji ba1 j12 fun i k => ⟨u12x2, i, k⟩, ji ba3 j13 fun i k => ⟨D3.mq, u13x3, i, D3.kc⟩, ji ba1 j14 fun i k => ⟨u14x3, i, k⟩, ji ba1 j15 fun i k => ⟨u15x3, i, k⟩, ji ba1 j16 fun i k => ⟨u16x3, i, k⟩, ji ba4 j17 fun i k => ⟨D4.mq, u17x4, i, D4.kc⟩, ji ba1 j18 fun i k => ⟨u18x4, i, k⟩, ji ba1 j19 fun i k => ⟨u19x4, i, k⟩, ji ba1 j20 fun i k => ⟨u20x4, i, k⟩, ji ba2 j21 fun i k => ⟨D5.mq, u21x5, i, D5.kc⟩, ji ba1 j22 fun i k => ⟨u22x5, i, k⟩, mg_of X G D0.A, mg_of X G D1.A, mg_of X G D2.A, mg_of X G D3.A, mg_of X G D4.A, mg_of X G D5.A, mg_of X G D6.A, ⟨D6.mq, oi, D6.kc⟩, FM, mg_of X G A20, mg_of X G A21, mg_of X G X22.A, mg_of X G A23, mg_of X G A24, mg_of X G A25, mg_of X G A26, mg_of X G A27, mg_of X G A28, mg_of X G A29, mg_of X G A30, mg_of X G A31, mg_of X G A32, mg_of X G A33, Mq B20, EX B21, EX X22.l, XF, iE, kE, IX22, y1, y2, y3⟩
 obtain ⟨f, fd, a, F⟩ := h48
 cases hfa.symm.trans (mg_of X G a)
 obtain ⟨oc, od, kV, doc, pm, an, cdv, ct, osl, rfl, lk, hcd⟩ := id F.ex
 exact ⟨_, fun s v => .of_eq rfl, fun base _ _ => La TT F⟩
theorem walk {l : OpenLaw} {q : Program} {loose : List Str} {XP : (Str -> Option Value) -> Heap -> Prop} {YP : World -> Heap -> Prop} {d : DefRec} {K : Params -> Frag} (hn : l.most = some 63) (hdf : d.params.defaults = [])
  (hY : ∀ (w : World) (h : Heap), YP w h -> (K w.params).In h)
  (F : ∀ (w : World) (mg : MG) (fa : Addr) (h : Heap), (K w.params).In h -> h.Ns mainGlobals mg -> mg d.name = some (.ref fa) ->
   ∃ fd : FuncData, (∀ (s : Shared) (u : Value), BindsTo s fd ⟨[u], []⟩ [("_law_script", u)]) /\ ∀ base : Heap, (K w.params).In base -> base.Ns mainGlobals mg -> aO l.prog w (K w.params) mg base CX0 12 fa fd ["_law_script"] (Df (K w.params))) :
  WalkO q loose XP YP l.row.toRowW d [] (fun f vs => PySem.call f vs) :=
 L2.Jz (n := 63) (k := 12) (x := "_law_script") (CX := fun _ => CX0) (sp := fun w => Df (K w.params)) hn Z0 hdf ⟨rfl, Z0, Z0⟩ hY F (fun _ _ a ns hl _ hS => ⟨a, ns, rfl, hS, hl, fun _ => rfl⟩) fun _ _ _ _ _ z => z
noncomputable section
noncomputable abbrev ke (P : Params) (x : Str) (t : Nat) (v : Value) : DictEntry := ⟨PyData.keyHash P x, .str x t, v⟩
open PySem in
noncomputable abbrev kf (s : Stmt) (n q m : Str) (t c : Nat) : Obj := { cls := .type "function", data := .func { name := n, qualname := q, params := L2.dg s, body := .stmts (L2.cu s), scope := L2.aC s, globals := 3, closure := [], defaults := .none, kwdefaults := .none, pyModule := .str m t, code := .ref c } }
open PySem in
noncomputable abbrev kc (n q : Str) (a b c : Nat) (l k : Int) (f r : Nat) (t : Bool) (g : Int) (u : Nat) (x y z : Value) (v : Nat) (m : Int) (e : Nat) : Obj := { cls := .type "code", data := .fields #[.str n a, .str q b, .str "/claim/cut.py" c, .int l 0, .int k 0, .int 0 0, .int 0 0, .int f 0, .ref r, .bool t, .int g 0, .ref u, x, y, z, .ref v, .int m 0, .int l 0, .str "/claim/cut.py" e] }
abbrev k23 (P : PySem.Params) : Obj := { cls := .type "dict", data := .dict #[ke P "__module__" 196 (.str "drawhouse.errors" 187), ke P "__firstlineno__" 200 (.int 2 199), ke P "__static_attributes__" 201 (.ref 22), ke P "__weakref__" 203 (.ref 25), ke P "__doc__" 204 .none] 3 }
abbrev k24 : Obj := { cls := .type "type", data := .cls { name := "HouseError", bases := [.type "ValueError"], mro := [.ref 24, .type "ValueError", .type "Exception", .type "BaseException", .type "object"], ns := 23, qualname := "HouseError", subclasses := [.ref 37, .ref 49, .ref 68, .ref 87, .ref 106, .ref 125, .ref 144, .ref 163, .ref 182, .ref 201, .ref 220, .ref 239, .ref 258] }, slots := #[some (.ref 15), none, some (.str "HouseError" 189), some (.str "HouseError" 197), some (.builtin "ValueError.__new__"), some (.bool true)] }
abbrev k25 : Obj := { cls := .type "getset_descriptor", data := .fields #[.str "__weakref__" 202, .ref 24, .builtin "ExceptionGroup.__weakref__", .none] }
abbrev k36 (P : PySem.Params) : Obj := { cls := .type "dict", data := .dict #[ke P "__module__" 214 (.str "drawhouse.errors" 187), ke P "__firstlineno__" 218 (.int 4 217), ke P "__static_attributes__" 219 (.ref 35), ke P "__doc__" 220 .none] 2 }
abbrev k37 : Obj := { cls := .type "type", data := .cls { name := "NoExpr", bases := [.ref 24], mro := [.ref 37, .ref 24, .type "ValueError", .type "Exception", .type "BaseException", .type "object"], ns := 36, qualname := "NoExpr" }, slots := #[some (.ref 28), none, some (.str "NoExpr" 207), some (.str "NoExpr" 215), some (.builtin "ValueError.__new__"), some (.bool true)] }
abbrev k48 (P : PySem.Params) : Obj := { cls := .type "dict", data := .dict #[ke P "__module__" 230 (.str "drawhouse.errors" 187), ke P "__firstlineno__" 234 (.int 6 233), ke P "__static_attributes__" 235 (.ref 47), ke P "__doc__" 236 .none] 2 }
abbrev k49 : Obj := { cls := .type "type", data := .cls { name := "TooWide", bases := [.ref 24], mro := [.ref 49, .ref 24, .type "ValueError", .type "Exception", .type "BaseException", .type "object"], ns := 48, qualname := "TooWide" }, slots := #[some (.ref 40), none, some (.str "TooWide" 223), some (.str "TooWide" 231), some (.builtin "ValueError.__new__"), some (.bool true)] }
abbrev k64 := kc "__init__" "NoText.__init__" 251 252 253 10 2 3 59 true 181 60 .none (.ref 61) (.ref 62) 63 256 257
abbrev k65 := kf (Mine.sb 4 0) "__init__" "NoText.__init__" "drawhouse.errors" 187 64
abbrev k67 (P : PySem.Params) : Obj := { cls := .type "dict", data := .dict #[ke P "__module__" 246 (.str "drawhouse.errors" 187), ke P "__firstlineno__" 250 (.int 8 249), ke P "__init__" 258 (.ref 65), ke P "__static_attributes__" 260 (.ref 66), ke P "__doc__" 261 .none] 2 }
abbrev k68 : Obj := { cls := .type "type", data := .cls { name := "NoText", bases := [.ref 24], mro := [.ref 68, .ref 24, .type "ValueError", .type "Exception", .type "BaseException", .type "object"], ns := 67, qualname := "NoText" }, slots := #[some (.ref 52), none, some (.str "NoText" 239), some (.str "NoText" 247), some (.builtin "ValueError.__new__"), some (.bool true)] }
abbrev k83 := kc "__init__" "TooMany.__init__" 276 277 278 15 2 3 78 true 181 79 .none (.ref 80) (.ref 81) 82 281 282
abbrev k84 := kf (Mine.sb 5 0) "__init__" "TooMany.__init__" "drawhouse.errors" 187 83
abbrev k86 (P : PySem.Params) : Obj := { cls := .type "dict", data := .dict #[ke P "__module__" 271 (.str "drawhouse.errors" 187), ke P "__firstlineno__" 275 (.int 13 274), ke P "__init__" 283 (.ref 84), ke P "__static_attributes__" 285 (.ref 85), ke P "__doc__" 286 .none] 2 }
abbrev k87 : Obj := { cls := .type "type", data := .cls { name := "TooMany", bases := [.ref 24], mro := [.ref 87, .ref 24, .type "ValueError", .type "Exception", .type "BaseException", .type "object"], ns := 86, qualname := "TooMany" }, slots := #[some (.ref 71), none, some (.str "TooMany" 264), some (.str "TooMany" 272), some (.builtin "ValueError.__new__"), some (.bool true)] }
abbrev k102 := kc "__init__" "Twice.__init__" 301 302 303 20 2 3 97 true 181 98 .none (.ref 99) (.ref 100) 101 306 307
abbrev k103 := kf (Mine.sb 6 0) "__init__" "Twice.__init__" "drawhouse.errors" 187 102
abbrev k105 (P : PySem.Params) : Obj := { cls := .type "dict", data := .dict #[ke P "__module__" 296 (.str "drawhouse.errors" 187), ke P "__firstlineno__" 300 (.int 18 299), ke P "__init__" 308 (.ref 103), ke P "__static_attributes__" 310 (.ref 104), ke P "__doc__" 311 .none] 2 }
abbrev k106 : Obj := { cls := .type "type", data := .cls { name := "Twice", bases := [.ref 24], mro := [.ref 106, .ref 24, .type "ValueError", .type "Exception", .type "BaseException", .type "object"], ns := 105, qualname := "Twice" }, slots := #[some (.ref 90), none, some (.str "Twice" 289), some (.str "Twice" 297), some (.builtin "ValueError.__new__"), some (.bool true)] }
abbrev k121 := kc "__init__" "Double.__init__" 326 327 328 25 2 3 116 true 181 117 .none (.ref 118) (.ref 119) 120 331 332
abbrev k122 := kf (Mine.sb 7 0) "__init__" "Double.__init__" "drawhouse.errors" 187 121
abbrev k124 (P : PySem.Params) : Obj := { cls := .type "dict", data := .dict #[ke P "__module__" 321 (.str "drawhouse.errors" 187), ke P "__firstlineno__" 325 (.int 23 324), ke P "__init__" 333 (.ref 122), ke P "__static_attributes__" 335 (.ref 123), ke P "__doc__" 336 .none] 2 }
abbrev k125 : Obj := { cls := .type "type", data := .cls { name := "Double", bases := [.ref 24], mro := [.ref 125, .ref 24, .type "ValueError", .type "Exception", .type "BaseException", .type "object"], ns := 124, qualname := "Double" }, slots := #[some (.ref 109), none, some (.str "Double" 314), some (.str "Double" 322), some (.builtin "ValueError.__new__"), some (.bool true)] }
abbrev k140 := kc "__init__" "Orphan.__init__" 351 352 353 30 2 3 135 true 181 136 .none (.ref 137) (.ref 138) 139 356 357
abbrev k141 := kf (Mine.sb 8 0) "__init__" "Orphan.__init__" "drawhouse.errors" 187 140
abbrev k143 (P : PySem.Params) : Obj := { cls := .type "dict", data := .dict #[ke P "__module__" 346 (.str "drawhouse.errors" 187), ke P "__firstlineno__" 350 (.int 28 349), ke P "__init__" 358 (.ref 141), ke P "__static_attributes__" 360 (.ref 142), ke P "__doc__" 361 .none] 2 }
abbrev k144 : Obj := { cls := .type "type", data := .cls { name := "Orphan", bases := [.ref 24], mro := [.ref 144, .ref 24, .type "ValueError", .type "Exception", .type "BaseException", .type "object"], ns := 143, qualname := "Orphan" }, slots := #[some (.ref 128), none, some (.str "Orphan" 339), some (.str "Orphan" 347), some (.builtin "ValueError.__new__"), some (.bool true)] }
abbrev k159 := kc "__init__" "Clash.__init__" 376 377 378 35 2 3 154 true 181 155 .none (.ref 156) (.ref 157) 158 381 382
abbrev k160 := kf (Mine.sb 9 0) "__init__" "Clash.__init__" "drawhouse.errors" 187 159
abbrev k162 (P : PySem.Params) : Obj := { cls := .type "dict", data := .dict #[ke P "__module__" 371 (.str "drawhouse.errors" 187), ke P "__firstlineno__" 375 (.int 33 374), ke P "__init__" 383 (.ref 160), ke P "__static_attributes__" 385 (.ref 161), ke P "__doc__" 386 .none] 2 }
abbrev k163 : Obj := { cls := .type "type", data := .cls { name := "Clash", bases := [.ref 24], mro := [.ref 163, .ref 24, .type "ValueError", .type "Exception", .type "BaseException", .type "object"], ns := 162, qualname := "Clash" }, slots := #[some (.ref 147), none, some (.str "Clash" 364), some (.str "Clash" 372), some (.builtin "ValueError.__new__"), some (.bool true)] }
abbrev k178 := kc "__init__" "NoRow.__init__" 401 402 403 40 2 3 173 true 181 174 .none (.ref 175) (.ref 176) 177 406 407
abbrev k179 := kf (Mine.sb 10 0) "__init__" "NoRow.__init__" "drawhouse.errors" 187 178
abbrev k181 (P : PySem.Params) : Obj := { cls := .type "dict", data := .dict #[ke P "__module__" 396 (.str "drawhouse.errors" 187), ke P "__firstlineno__" 400 (.int 38 399), ke P "__init__" 408 (.ref 179), ke P "__static_attributes__" 410 (.ref 180), ke P "__doc__" 411 .none] 2 }
abbrev k182 : Obj := { cls := .type "type", data := .cls { name := "NoRow", bases := [.ref 24], mro := [.ref 182, .ref 24, .type "ValueError", .type "Exception", .type "BaseException", .type "object"], ns := 181, qualname := "NoRow" }, slots := #[some (.ref 166), none, some (.str "NoRow" 389), some (.str "NoRow" 397), some (.builtin "ValueError.__new__"), some (.bool true)] }
abbrev k197 := kc "__init__" "NoPart.__init__" 426 427 428 45 2 3 192 true 181 193 .none (.ref 194) (.ref 195) 196 431 432
abbrev k198 := kf (Mine.sb 11 0) "__init__" "NoPart.__init__" "drawhouse.errors" 187 197
abbrev k200 (P : PySem.Params) : Obj := { cls := .type "dict", data := .dict #[ke P "__module__" 421 (.str "drawhouse.errors" 187), ke P "__firstlineno__" 425 (.int 43 424), ke P "__init__" 433 (.ref 198), ke P "__static_attributes__" 435 (.ref 199), ke P "__doc__" 436 .none] 2 }
abbrev k201 : Obj := { cls := .type "type", data := .cls { name := "NoPart", bases := [.ref 24], mro := [.ref 201, .ref 24, .type "ValueError", .type "Exception", .type "BaseException", .type "object"], ns := 200, qualname := "NoPart" }, slots := #[some (.ref 185), none, some (.str "NoPart" 414), some (.str "NoPart" 422), some (.builtin "ValueError.__new__"), some (.bool true)] }
abbrev k216 := kc "__init__" "NoDrop.__init__" 451 452 453 50 2 3 211 true 181 212 .none (.ref 213) (.ref 214) 215 456 457
abbrev k217 := kf (Mine.sb 12 0) "__init__" "NoDrop.__init__" "drawhouse.errors" 187 216
abbrev k219 (P : PySem.Params) : Obj := { cls := .type "dict", data := .dict #[ke P "__module__" 446 (.str "drawhouse.errors" 187), ke P "__firstlineno__" 450 (.int 48 449), ke P "__init__" 458 (.ref 217), ke P "__static_attributes__" 460 (.ref 218), ke P "__doc__" 461 .none] 2 }
abbrev k220 : Obj := { cls := .type "type", data := .cls { name := "NoDrop", bases := [.ref 24], mro := [.ref 220, .ref 24, .type "ValueError", .type "Exception", .type "BaseException", .type "object"], ns := 219, qualname := "NoDrop" }, slots := #[some (.ref 204), none, some (.str "NoDrop" 439), some (.str "NoDrop" 447), some (.builtin "ValueError.__new__"), some (.bool true)] }
abbrev k235 := kc "__init__" "NoName.__init__" 476 477 478 55 2 3 230 true 181 231 .none (.ref 232) (.ref 233) 234 481 482
abbrev k236 := kf (Mine.sb 13 0) "__init__" "NoName.__init__" "drawhouse.errors" 187 235
abbrev k238 (P : PySem.Params) : Obj := { cls := .type "dict", data := .dict #[ke P "__module__" 471 (.str "drawhouse.errors" 187), ke P "__firstlineno__" 475 (.int 53 474), ke P "__init__" 483 (.ref 236), ke P "__static_attributes__" 485 (.ref 237), ke P "__doc__" 486 .none] 2 }
abbrev k239 : Obj := { cls := .type "type", data := .cls { name := "NoName", bases := [.ref 24], mro := [.ref 239, .ref 24, .type "ValueError", .type "Exception", .type "BaseException", .type "object"], ns := 238, qualname := "NoName" }, slots := #[some (.ref 223), none, some (.str "NoName" 464), some (.str "NoName" 472), some (.builtin "ValueError.__new__"), some (.bool true)] }
abbrev k254 := kc "__init__" "Fault.__init__" 501 502 503 60 5 3 249 true 181 250 .none (.ref 251) (.ref 252) 253 509 510
abbrev k255 := kf (Mine.sb 14 0) "__init__" "Fault.__init__" "drawhouse.errors" 187 254
abbrev k257 (P : PySem.Params) : Obj := { cls := .type "dict", data := .dict #[ke P "__module__" 496 (.str "drawhouse.errors" 187), ke P "__firstlineno__" 500 (.int 58 499), ke P "__init__" 511 (.ref 255), ke P "__static_attributes__" 516 (.ref 256), ke P "__doc__" 517 .none] 2 }
abbrev k258 : Obj := { cls := .type "type", data := .cls { name := "Fault", bases := [.ref 24], mro := [.ref 258, .ref 24, .type "ValueError", .type "Exception", .type "BaseException", .type "object"], ns := 257, qualname := "Fault" }, slots := #[some (.ref 242), none, some (.str "Fault" 489), some (.str "Fault" 497), some (.builtin "ValueError.__new__"), some (.bool true)] }
abbrev k264 := kc "is_name" "is_name" 528 529 530 70 1 3 261 true 181 262 .none .none .none 263 531 532
abbrev k265 := kf (Mine.top 19) "is_name" "is_name" "drawhouse.words" 520 264
abbrev k269 := kc "are_names" "are_names" 534 535 536 76 2 3 266 true 181 267 .none .none .none 268 537 538
abbrev k270 := kf (Mine.top 20) "are_names" "are_names" "drawhouse.words" 520 269
abbrev k276 := kc "is_address" "is_address" 540 541 542 79 1 3 271 true 181 272 .none (.ref 273) (.ref 274) 275 544 545
abbrev k277 := kf (Mine.top 21) "is_address" "is_address" "drawhouse.words" 520 276
abbrev k281 := kc "is_number" "is_number" 557 558 559 86 1 3 278 true 181 279 .none .none .none 280 560 561
abbrev k282 := kf (Mine.top 27) "is_number" "is_number" "drawhouse.exprs" 547 281
abbrev k288 := kc "read_path" "read_path" 563 564 565 92 1 3 283 true 181 284 .none (.ref 285) (.ref 286) 287 567 568
abbrev k289 := kf (Mine.top 28) "read_path" "read_path" "drawhouse.exprs" 547 288
abbrev k295 := kc "read_term" "read_term" 570 571 572 96 2 3 290 true 181 291 .none (.ref 292) (.ref 293) 294 575 576
abbrev k296 := kf (Mine.top 29) "read_term" "read_term" "drawhouse.exprs" 547 295
abbrev k302 := kc "read_sign" "read_sign" 578 579 580 102 1 3 297 true 181 298 .none (.ref 299) (.ref 300) 301 582 583
abbrev k303 := kf (Mine.top 30) "read_sign" "read_sign" "drawhouse.exprs" 547 302
abbrev k309 := kc "read_expr" "read_expr" 585 586 587 108 1 3 304 true 181 305 .none (.ref 306) (.ref 307) 308 592 593
abbrev k310 := kf (Mine.top 31) "read_expr" "read_expr" "drawhouse.exprs" 547 309
abbrev k316 := kc "show_term" "show_term" 595 596 597 120 2 3 311 true 181 312 .none (.ref 313) (.ref 314) 315 601 602
abbrev k317 := kf (Mine.top 32) "show_term" "show_term" "drawhouse.exprs" 547 316
abbrev k323 := kc "show_expr" "show_expr" 604 605 606 127 1 3 318 true 181 319 .none (.ref 320) (.ref 321) 322 612 613
abbrev k324 := kf (Mine.top 33) "show_expr" "show_expr" "drawhouse.exprs" 547 323
abbrev k328 := kc "has_call" "has_call" 615 616 617 134 1 3 325 true 181 326 .none .none .none 327 618 619
abbrev k329 := kf (Mine.top 34) "has_call" "has_call" "drawhouse.exprs" 547 328
abbrev k342 := kc "binds" "Row.binds" 635 636 637 139 1 3 337 true 181 338 .none (.ref 339) (.ref 340) 341 639 640
abbrev k343 := kf (Mine.sb 36 0) "binds" "Row.binds" "drawhouse.rows" 621 342
abbrev k349 := kc "asked" "Row.asked" 642 643 644 142 1 3 344 true 181 345 .none (.ref 346) (.ref 347) 348 646 647
abbrev k350 := kf (Mine.sb 36 1) "asked" "Row.asked" "drawhouse.rows" 621 349
abbrev k356 := kc "said" "Row.said" 649 650 651 145 1 3 351 true 181 352 .none (.ref 353) (.ref 354) 355 653 654
abbrev k357 := kf (Mine.sb 36 2) "said" "Row.said" "drawhouse.rows" 621 356
abbrev k359 (P : PySem.Params) : Obj := { cls := .type "dict", data := .dict #[ke P "__module__" 630 (.str "drawhouse.rows" 621), ke P "__firstlineno__" 634 (.int 137 633), ke P "binds" 641 (.ref 343), ke P "asked" 648 (.ref 350), ke P "said" 655 (.ref 357), ke P "__static_attributes__" 656 (.ref 358), ke P "__dict__" 658 (.ref 361), ke P "__weakref__" 660 (.ref 362), ke P "__doc__" 661 .none] 4 }
abbrev k360 : Obj := { cls := .type "type", data := .cls { name := "Row", bases := [.type "object"], mro := [.ref 360, .type "object"], ns := 359, qualname := "Row", subclasses := [.ref 395, .ref 428, .ref 468, .ref 508, .ref 548, .ref 574] }, slots := #[none, none, some (.str "Row" 623), some (.str "Row" 631), some (.builtin "object.__new__"), some (.bool true)] }
abbrev k361 : Obj := { cls := .type "getset_descriptor", data := .fields #[.str "__dict__" 657, .ref 360, .builtin "function.__dict__", .builtin "function.__dict__#set"] }
abbrev k362 : Obj := { cls := .type "getset_descriptor", data := .fields #[.str "__weakref__" 659, .ref 360, .builtin "ExceptionGroup.__weakref__", .none] }
abbrev k377 := kc "__init__" "Let.__init__" 676 677 678 149 3 3 372 true 181 373 .none (.ref 374) (.ref 375) 376 682 683
abbrev k378 := kf (Mine.sb 37 0) "__init__" "Let.__init__" "drawhouse.rows" 621 377
abbrev k384 := kc "binds" "Let.binds" 685 686 687 153 1 3 379 true 181 380 .none (.ref 381) (.ref 382) 383 689 690
abbrev k385 := kf (Mine.sb 37 1) "binds" "Let.binds" "drawhouse.rows" 621 384
abbrev k391 := kc "said" "Let.said" 692 693 694 156 1 3 386 true 181 387 .none (.ref 388) (.ref 389) 390 696 697
abbrev k392 := kf (Mine.sb 37 2) "said" "Let.said" "drawhouse.rows" 621 391
abbrev k394 (P : PySem.Params) : Obj := { cls := .type "dict", data := .dict #[ke P "__module__" 671 (.str "drawhouse.rows" 621), ke P "__firstlineno__" 675 (.int 147 674), ke P "__init__" 684 (.ref 378), ke P "binds" 691 (.ref 385), ke P "said" 698 (.ref 392), ke P "__static_attributes__" 701 (.ref 393), ke P "__doc__" 702 .none] 2 }
abbrev k395 : Obj := { cls := .type "type", data := .cls { name := "Let", bases := [.ref 360], mro := [.ref 395, .ref 360, .type "object"], ns := 394, qualname := "Let" }, slots := #[some (.ref 365), none, some (.str "Let" 664), some (.str "Let" 672), some (.builtin "object.__new__"), some (.bool true)] }
abbrev k410 := kc "__init__" "Deed.__init__" 717 718 719 160 3 3 405 true 181 406 .none (.ref 407) (.ref 408) 409 723 724
abbrev k411 := kf (Mine.sb 38 0) "__init__" "Deed.__init__" "drawhouse.rows" 621 410
abbrev k417 := kc "binds" "Deed.binds" 726 727 728 164 1 3 412 true 181 413 .none (.ref 414) (.ref 415) 416 730 731
abbrev k418 := kf (Mine.sb 38 1) "binds" "Deed.binds" "drawhouse.rows" 621 417
abbrev k424 := kc "said" "Deed.said" 733 734 735 167 1 3 419 true 181 420 .none (.ref 421) (.ref 422) 423 737 738
abbrev k425 := kf (Mine.sb 38 2) "said" "Deed.said" "drawhouse.rows" 621 424
abbrev k427 (P : PySem.Params) : Obj := { cls := .type "dict", data := .dict #[ke P "__module__" 712 (.str "drawhouse.rows" 621), ke P "__firstlineno__" 716 (.int 158 715), ke P "__init__" 725 (.ref 411), ke P "binds" 732 (.ref 418), ke P "said" 739 (.ref 425), ke P "__static_attributes__" 742 (.ref 426), ke P "__doc__" 743 .none] 2 }
abbrev k428 : Obj := { cls := .type "type", data := .cls { name := "Deed", bases := [.ref 360], mro := [.ref 428, .ref 360, .type "object"], ns := 427, qualname := "Deed" }, slots := #[some (.ref 398), none, some (.str "Deed" 705), some (.str "Deed" 713), some (.builtin "object.__new__"), some (.bool true)] }
abbrev k443 := kc "__init__" "Draw.__init__" 758 759 760 171 3 3 438 true 181 439 .none (.ref 440) (.ref 441) 442 764 765
abbrev k444 := kf (Mine.sb 39 0) "__init__" "Draw.__init__" "drawhouse.rows" 621 443
abbrev k450 := kc "binds" "Draw.binds" 767 768 769 175 1 3 445 true 181 446 .none (.ref 447) (.ref 448) 449 771 772
abbrev k451 := kf (Mine.sb 39 1) "binds" "Draw.binds" "drawhouse.rows" 621 450
abbrev k457 := kc "asked" "Draw.asked" 774 775 776 178 1 3 452 true 181 453 .none (.ref 454) (.ref 455) 456 778 779
abbrev k458 := kf (Mine.sb 39 2) "asked" "Draw.asked" "drawhouse.rows" 621 457
abbrev k464 := kc "said" "Draw.said" 781 782 783 181 1 3 459 true 181 460 .none (.ref 461) (.ref 462) 463 785 786
abbrev k465 := kf (Mine.sb 39 3) "said" "Draw.said" "drawhouse.rows" 621 464
abbrev k467 (P : PySem.Params) : Obj := { cls := .type "dict", data := .dict #[ke P "__module__" 753 (.str "drawhouse.rows" 621), ke P "__firstlineno__" 757 (.int 169 756), ke P "__init__" 766 (.ref 444), ke P "binds" 773 (.ref 451), ke P "asked" 780 (.ref 458), ke P "said" 787 (.ref 465), ke P "__static_attributes__" 790 (.ref 466), ke P "__doc__" 791 .none] 2 }
abbrev k468 : Obj := { cls := .type "type", data := .cls { name := "Draw", bases := [.ref 360], mro := [.ref 468, .ref 360, .type "object"], ns := 467, qualname := "Draw" }, slots := #[some (.ref 431), none, some (.str "Draw" 746), some (.str "Draw" 754), some (.builtin "object.__new__"), some (.bool true)] }
abbrev k483 := kc "__init__" "Late.__init__" 806 807 808 185 3 3 478 true 181 479 .none (.ref 480) (.ref 481) 482 812 813
abbrev k484 := kf (Mine.sb 40 0) "__init__" "Late.__init__" "drawhouse.rows" 621 483
abbrev k490 := kc "binds" "Late.binds" 815 816 817 189 1 3 485 true 181 486 .none (.ref 487) (.ref 488) 489 819 820
abbrev k491 := kf (Mine.sb 40 1) "binds" "Late.binds" "drawhouse.rows" 621 490
abbrev k497 := kc "asked" "Late.asked" 822 823 824 192 1 3 492 true 181 493 .none (.ref 494) (.ref 495) 496 826 827
abbrev k498 := kf (Mine.sb 40 2) "asked" "Late.asked" "drawhouse.rows" 621 497
abbrev k504 := kc "said" "Late.said" 829 830 831 195 1 3 499 true 181 500 .none (.ref 501) (.ref 502) 503 833 834
abbrev k505 := kf (Mine.sb 40 3) "said" "Late.said" "drawhouse.rows" 621 504
abbrev k507 (P : PySem.Params) : Obj := { cls := .type "dict", data := .dict #[ke P "__module__" 801 (.str "drawhouse.rows" 621), ke P "__firstlineno__" 805 (.int 183 804), ke P "__init__" 814 (.ref 484), ke P "binds" 821 (.ref 491), ke P "asked" 828 (.ref 498), ke P "said" 835 (.ref 505), ke P "__static_attributes__" 838 (.ref 506), ke P "__doc__" 839 .none] 2 }
abbrev k508 : Obj := { cls := .type "type", data := .cls { name := "Late", bases := [.ref 360], mro := [.ref 508, .ref 360, .type "object"], ns := 507, qualname := "Late" }, slots := #[some (.ref 471), none, some (.str "Late" 794), some (.str "Late" 802), some (.builtin "object.__new__"), some (.bool true)] }
abbrev k523 := kc "__init__" "Take.__init__" 854 855 856 199 4 3 518 true 181 519 .none (.ref 520) (.ref 521) 522 861 862
abbrev k524 := kf (Mine.sb 41 0) "__init__" "Take.__init__" "drawhouse.rows" 621 523
abbrev k530 := kc "binds" "Take.binds" 864 865 866 204 1 3 525 true 181 526 .none (.ref 527) (.ref 528) 529 868 869
abbrev k531 := kf (Mine.sb 41 1) "binds" "Take.binds" "drawhouse.rows" 621 530
abbrev k537 := kc "asked" "Take.asked" 871 872 873 207 1 3 532 true 181 533 .none (.ref 534) (.ref 535) 536 875 876
abbrev k538 := kf (Mine.sb 41 2) "asked" "Take.asked" "drawhouse.rows" 621 537
abbrev k544 := kc "said" "Take.said" 878 879 880 210 1 3 539 true 181 540 .none (.ref 541) (.ref 542) 543 882 883
abbrev k545 := kf (Mine.sb 41 3) "said" "Take.said" "drawhouse.rows" 621 544
abbrev k547 (P : PySem.Params) : Obj := { cls := .type "dict", data := .dict #[ke P "__module__" 849 (.str "drawhouse.rows" 621), ke P "__firstlineno__" 853 (.int 197 852), ke P "__init__" 863 (.ref 524), ke P "binds" 870 (.ref 531), ke P "asked" 877 (.ref 538), ke P "said" 884 (.ref 545), ke P "__static_attributes__" 888 (.ref 546), ke P "__doc__" 889 .none] 2 }
abbrev k548 : Obj := { cls := .type "type", data := .cls { name := "Take", bases := [.ref 360], mro := [.ref 548, .ref 360, .type "object"], ns := 547, qualname := "Take" }, slots := #[some (.ref 511), none, some (.str "Take" 842), some (.str "Take" 850), some (.builtin "object.__new__"), some (.bool true)] }
abbrev k563 := kc "__init__" "Need.__init__" 904 905 906 214 2 3 558 true 181 559 .none (.ref 560) (.ref 561) 562 909 910
abbrev k564 := kf (Mine.sb 42 0) "__init__" "Need.__init__" "drawhouse.rows" 621 563
abbrev k570 := kc "said" "Need.said" 912 913 914 217 1 3 565 true 181 566 .none (.ref 567) (.ref 568) 569 916 917
abbrev k571 := kf (Mine.sb 42 1) "said" "Need.said" "drawhouse.rows" 621 570
abbrev k573 (P : PySem.Params) : Obj := { cls := .type "dict", data := .dict #[ke P "__module__" 899 (.str "drawhouse.rows" 621), ke P "__firstlineno__" 903 (.int 212 902), ke P "__init__" 911 (.ref 564), ke P "said" 918 (.ref 571), ke P "__static_attributes__" 920 (.ref 572), ke P "__doc__" 921 .none] 2 }
abbrev k574 : Obj := { cls := .type "type", data := .cls { name := "Need", bases := [.ref 360], mro := [.ref 574, .ref 360, .type "object"], ns := 573, qualname := "Need" }, slots := #[some (.ref 551), none, some (.str "Need" 892), some (.str "Need" 900), some (.builtin "object.__new__"), some (.bool true)] }
abbrev k582 := kc "names_expr" "names_expr" 926 927 928 220 1 3 577 true 181 578 .none (.ref 579) (.ref 580) 581 930 931
abbrev k583 := kf (Mine.top 44) "names_expr" "names_expr" "drawhouse.reader" 924 582
abbrev k589 := kc "names_address" "names_address" 933 934 935 222 1 3 584 true 181 585 .none (.ref 586) (.ref 587) 588 937 938
abbrev k590 := kf (Mine.top 45) "names_address" "names_address" "drawhouse.reader" 924 589
abbrev k596 := kc "names_word" "names_word" 940 941 942 224 1 3 591 true 181 592 .none (.ref 593) (.ref 594) 595 944 945
abbrev k597 := kf (Mine.top 46) "names_word" "names_word" "drawhouse.reader" 924 596
abbrev k603 := kc "terms_from" "terms_from" 947 948 949 228 2 3 598 true 181 599 .none (.ref 600) (.ref 601) 602 952 953
abbrev k604 := kf (Mine.top 47) "terms_from" "terms_from" "drawhouse.reader" 924 603
abbrev k610 := kc "deed_of" "deed_of" 955 956 957 230 2 3 605 true 181 606 .none (.ref 607) (.ref 608) 609 960 961
abbrev k611 := kf (Mine.top 48) "deed_of" "deed_of" "drawhouse.reader" 924 610
abbrev k617 := kc "row_of" "row_of" 963 964 965 234 1 3 612 true 181 613 .none (.ref 614) (.ref 615) 616 968 969
abbrev k618 := kf (Mine.top 49) "row_of" "row_of" "drawhouse.reader" 924 617
abbrev k624 := kc "row_at" "row_at" 971 972 973 249 2 3 619 true 181 620 .none (.ref 621) (.ref 622) 623 977 978
abbrev k625 := kf (Mine.top 50) "row_at" "row_at" "drawhouse.reader" 924 624
abbrev k631 := kc "read_row" "read_row" 980 981 982 257 1 3 626 true 181 627 .none (.ref 628) (.ref 629) 630 984 985
abbrev k632 := kf (Mine.top 51) "read_row" "read_row" "drawhouse.reader" 924 631
abbrev k638 := kc "_law_cell" "_law_cell" 989 990 991 262 2 3 633 true 181 634 .none (.ref 635) (.ref 636) 637 994 995
abbrev k639 := kf (Mine.top 53) "_law_cell" "_law_cell" "law_drawhouse_k22_no_rows" 987 638
abbrev k645 := kc "_law_sub" "_law_sub" 997 998 999 266 2 3 640 true 181 641 .none (.ref 642) (.ref 643) 644 1002 1003
abbrev k646 := kf (Mine.top 54) "_law_sub" "_law_sub" "law_drawhouse_k22_no_rows" 987 645
abbrev k652 := kc "_law_number" "_law_number" 1005 1006 1007 270 2 3 647 true 181 648 .none (.ref 649) (.ref 650) 651 1010 1011
abbrev k653 := kf (Mine.top 55) "_law_number" "_law_number" "law_drawhouse_k22_no_rows" 987 652
abbrev k659 := kc "_law_pick" "_law_pick" 1013 1014 1015 274 3 3 654 true 181 655 .none (.ref 656) (.ref 657) 658 1022 1023
abbrev k660 := kf (Mine.top 56) "_law_pick" "_law_pick" "law_drawhouse_k22_no_rows" 987 659
abbrev k664 := kc "_law_name" "_law_name" 1025 1026 1027 283 1 3 661 true 181 662 .none .none .none 663 1028 1029
abbrev k665 := kf (Mine.top 57) "_law_name" "_law_name" "law_drawhouse_k22_no_rows" 987 664
abbrev k671 := kc "_law_label" "_law_label" 1031 1032 1033 286 1 3 666 true 181 667 .none (.ref 668) (.ref 669) 670 1036 1037
abbrev k672 := kf (Mine.top 58) "_law_label" "_law_label" "law_drawhouse_k22_no_rows" 987 671
abbrev k676 := kc "_law_address" "_law_address" 1039 1040 1041 291 1 3 673 true 181 674 .none .none .none 675 1042 1043
abbrev k677 := kf (Mine.top 59) "_law_address" "_law_address" "law_drawhouse_k22_no_rows" 987 676
abbrev k681 := kc "_law_term" "_law_term" 1045 1046 1047 293 2 3 678 true 181 679 .none .none .none 680 1048 1049
abbrev k682 := kf (Mine.top 60) "_law_term" "_law_term" "law_drawhouse_k22_no_rows" 987 681
abbrev k686 := kc "_law_terms" "_law_terms" 1051 1052 1053 301 1 3 683 true 181 684 .none .none .none 685 1054 1055
abbrev k687 := kf (Mine.top 61) "_law_terms" "_law_terms" "law_drawhouse_k22_no_rows" 987 686
abbrev k693 := kc "_law_word" "_law_word" 1057 1058 1059 303 1 3 688 true 181 689 .none (.ref 690) (.ref 691) 692 1064 1065
abbrev k694 := kf (Mine.top 62) "_law_word" "_law_word" "law_drawhouse_k22_no_rows" 987 693
abbrev k700 := kc "_law_text" "_law_text" 1067 1068 1069 308 1 3 695 true 181 696 .none (.ref 697) (.ref 698) 699 1073 1074
abbrev k701 := kf (Mine.top 63) "_law_text" "_law_text" "law_drawhouse_k22_no_rows" 987 700
abbrev k705 := kc "_law_row" "_law_row" 1076 1077 1078 313 2 3 702 true 181 703 .none .none .none 704 1079 1080
abbrev k706 := kf (Mine.top 64) "_law_row" "_law_row" "law_drawhouse_k22_no_rows" 987 705
abbrev k712 := kc "_law_said" "_law_said" 1082 1083 1084 321 1 3 707 true 181 708 .none (.ref 709) (.ref 710) 711 1091 1092
abbrev k713 := kf (Mine.top 65) "_law_said" "_law_said" "law_drawhouse_k22_no_rows" 987 712
abbrev k719 := kc "_law_whole" "_law_whole" 1094 1095 1096 330 1 3 714 true 181 715 .none (.ref 716) (.ref 717) 718 1098 1099
abbrev k720 := kf (Mine.top 66) "_law_whole" "_law_whole" "law_drawhouse_k22_no_rows" 987 719
abbrev k726 := kc "_law_term_is" "_law_term_is" 1101 1102 1103 332 2 3 721 true 181 722 .none (.ref 723) (.ref 724) 725 1106 1107
abbrev k727 := kf (Mine.top 67) "_law_term_is" "_law_term_is" "law_drawhouse_k22_no_rows" 987 726
abbrev k731 := kc "_law_terms_are" "_law_terms_are" 1109 1110 1111 338 2 3 728 true 181 729 .none .none .none 730 1112 1113
abbrev k732 := kf (Mine.top 68) "_law_terms_are" "_law_terms_are" "law_drawhouse_k22_no_rows" 987 731
abbrev k736 := kc "_law_is" "_law_is" 1115 1116 1117 342 2 3 733 true 181 734 .none .none .none 735 1118 1119
abbrev k737 := kf (Mine.top 69) "_law_is" "_law_is" "law_drawhouse_k22_no_rows" 987 736
abbrev k743 := kc "_law_says" "_law_says" 1121 1122 1123 356 2 3 738 true 181 739 .none (.ref 740) (.ref 741) 742 1130 1131
abbrev k744 := kf (Mine.top 70) "_law_says" "_law_says" "law_drawhouse_k22_no_rows" 987 743
abbrev k750 := kc "_law_is_name" "_law_is_name" 1133 1134 1135 365 1 3 745 true 181 746 .none (.ref 747) (.ref 748) 749 1138 1139
abbrev k751 := kf (Mine.top 71) "_law_is_name" "_law_is_name" "law_drawhouse_k22_no_rows" 987 750
abbrev k755 := kc "_law_is_address" "_law_is_address" 1141 1142 1143 370 1 3 752 true 181 753 .none .none .none 754 1144 1145
abbrev k756 := kf (Mine.top 72) "_law_is_address" "_law_is_address" "law_drawhouse_k22_no_rows" 987 755
abbrev k760 := kc "_law_read_word" "_law_read_word" 1147 1148 1149 373 2 3 757 true 181 758 .none .none .none 759 1150 1151
abbrev k761 := kf (Mine.top 73) "_law_read_word" "_law_read_word" "law_drawhouse_k22_no_rows" 987 760
abbrev k767 := kc "_law_read" "_law_read" 1153 1154 1155 387 1 3 762 true 181 763 .none (.ref 764) (.ref 765) 766 1160 1161
abbrev k768 := kf (Mine.top 74) "_law_read" "_law_read" "law_drawhouse_k22_no_rows" 987 767
abbrev k772 := kc "_law_read_told" "_law_read_told" 1163 1164 1165 399 1 3 769 true 181 770 .none .none .none 771 1166 1167
abbrev k773 := kf (Mine.top 75) "_law_read_told" "_law_read_told" "law_drawhouse_k22_no_rows" 987 772
abbrev k779 := kc "_law_read_row" "_law_read_row" 1169 1170 1171 406 1 3 774 true 181 775 .none (.ref 776) (.ref 777) 778 1174 1175
abbrev k780 := kf (Mine.top 76) "_law_read_row" "_law_read_row" "law_drawhouse_k22_no_rows" 987 779
abbrev k786 := kc "_law_worded" "_law_worded" 1177 1178 1179 419 2 3 781 true 181 782 .none (.ref 783) (.ref 784) 785 1186 1187
abbrev k787 := kf (Mine.top 77) "_law_worded" "_law_worded" "law_drawhouse_k22_no_rows" 987 786
abbrev k793 := kc "_law_signed" "_law_signed" 1189 1190 1191 442 2 3 788 true 181 789 .none (.ref 790) (.ref 791) 792 1198 1199
abbrev k794 := kf (Mine.top 78) "_law_signed" "_law_signed" "law_drawhouse_k22_no_rows" 987 793
abbrev k800 := kc "_law_other" "_law_other" 1201 1202 1203 455 1 3 795 true 181 796 .none (.ref 797) (.ref 798) 799 1206 1207
abbrev k801 := kf (Mine.top 79) "_law_other" "_law_other" "law_drawhouse_k22_no_rows" 987 800
abbrev k807 := kc "_law_refused" "_law_refused" 1209 1210 1211 460 1 3 802 true 181 803 .none (.ref 804) (.ref 805) 806 1214 1215
abbrev k808 := kf (Mine.top 80) "_law_refused" "_law_refused" "law_drawhouse_k22_no_rows" 987 807
abbrev k814 := kc "_law_taken" "_law_taken" 1217 1218 1219 468 1 3 809 true 181 810 .none (.ref 811) (.ref 812) 813 1222 1223
abbrev k815 := kf (Mine.top 81) "_law_taken" "_law_taken" "law_drawhouse_k22_no_rows" 987 814
abbrev k821 := kc "law" "law" 1225 1226 1227 473 1 3 816 true 181 817 .none (.ref 818) (.ref 819) 820 1235 1236
abbrev k822 := kf (Mine.top 82) "law" "law" "law_drawhouse_k22_no_rows" 987 821
open PySem in
def myK : PySem.Params -> Frag := fun P =>
 (nat_lit 2, { cls := Value.none, data := Data.dict #[] }) ::
 (nat_lit 3, { cls := .type "dict", data := .dict #[ke P "__name__" 165 (.str "law_drawhouse_k22_no_rows" 987), ke P "__doc__" 166 .none, ke P "__package__" 167 .none, ke P "__loader__" 168 (.builtin "__main__.__loader__#opaque"), ke P "__spec__" 169 .none, ke P "__annotations__" 170 (.ref 6), ke P "__builtins__" 171 (.ref 4), ke P "__file__" 173 (.str "/claim/cut.py" 172), ke P "__cached__" 174 .none, ke P "HouseError" 206 (.ref 24), ke P "NoExpr" 222 (.ref 37), ke P "TooWide" 238 (.ref 49), ke P "NoText" 263 (.ref 68), ke P "TooMany" 288 (.ref 87), ke P "Twice" 313 (.ref 106), ke P "Double" 338 (.ref 125), ke P "Orphan" 363 (.ref 144), ke P "Clash" 388 (.ref 163), ke P "NoRow" 413 (.ref 182), ke P "NoPart" 438 (.ref 201), ke P "NoDrop" 463 (.ref 220), ke P "NoName" 488 (.ref 239), ke P "Fault" 519 (.ref 258), ke P "LETTERS" 523 (.str "abcdefghijklmnopqrstuvwxyz" 522), ke P "MOST_LETTERS" 525 (.int 8 524), ke P "MOST_NAMES" 527 (.int 3 526), ke P "is_name" 533 (.ref 265), ke P "are_names" 539 (.ref 270), ke P "is_address" 546 (.ref 277), ke P "FIGURES" 550 (.str "0123456789" 549), ke P "MOST_FIGURES" 552 (.int 20 551), ke P "MOST_TERMS" 554 (.int 6 553), ke P "MOST_STEPS" 556 (.int 4 555), ke P "is_number" 562 (.ref 282), ke P "read_path" 569 (.ref 289), ke P "read_term" 577 (.ref 296), ke P "read_sign" 584 (.ref 303), ke P "read_expr" 594 (.ref 310), ke P "show_term" 603 (.ref 317), ke P "show_expr" 614 (.ref 324), ke P "has_call" 620 (.ref 329), ke P "Row" 663 (.ref 360), ke P "Let" 704 (.ref 395), ke P "Deed" 745 (.ref 428), ke P "Draw" 793 (.ref 468), ke P "Late" 841 (.ref 508), ke P "Take" 891 (.ref 548), ke P "Need" 923 (.ref 574), ke P "names_expr" 932 (.ref 583), ke P "names_address" 939 (.ref 590), ke P "names_word" 946 (.ref 597), ke P "terms_from" 954 (.ref 604), ke P "deed_of" 962 (.ref 611), ke P "row_of" 970 (.ref 618), ke P "row_at" 979 (.ref 625), ke P "read_row" 986 (.ref 632), ke P "_law_cell" 996 (.ref 639), ke P "_law_sub" 1004 (.ref 646), ke P "_law_number" 1012 (.ref 653), ke P "_law_pick" 1024 (.ref 660), ke P "_law_name" 1030 (.ref 665), ke P "_law_label" 1038 (.ref 672), ke P "_law_address" 1044 (.ref 677), ke P "_law_term" 1050 (.ref 682), ke P "_law_terms" 1056 (.ref 687), ke P "_law_word" 1066 (.ref 694), ke P "_law_text" 1075 (.ref 701), ke P "_law_row" 1081 (.ref 706), ke P "_law_said" 1093 (.ref 713), ke P "_law_whole" 1100 (.ref 720), ke P "_law_term_is" 1108 (.ref 727), ke P "_law_terms_are" 1114 (.ref 732), ke P "_law_is" 1120 (.ref 737), ke P "_law_says" 1132 (.ref 744), ke P "_law_is_name" 1140 (.ref 751), ke P "_law_is_address" 1146 (.ref 756), ke P "_law_read_word" 1152 (.ref 761), ke P "_law_read" 1162 (.ref 768), ke P "_law_read_told" 1168 (.ref 773), ke P "_law_read_row" 1176 (.ref 780), ke P "_law_worded" 1188 (.ref 787), ke P "_law_signed" 1200 (.ref 794), ke P "_law_other" 1208 (.ref 801), ke P "_law_refused" 1216 (.ref 808), ke P "_law_taken" 1224 (.ref 815), ke P "law" 1237 (.ref 822)] 86 }) ::
 (nat_lit 23, k23 P) ::
 (nat_lit 24, k24) ::
 (nat_lit 25, k25) ::
 (nat_lit 36, k36 P) ::
 (nat_lit 37, k37) ::
 (nat_lit 48, k48 P) ::
 (nat_lit 49, k49) ::
 (nat_lit 64, k64) ::
 (nat_lit 65, k65) ::
 (nat_lit 67, k67 P) ::
 (nat_lit 68, k68) ::
 (nat_lit 83, k83) ::
 (nat_lit 84, k84) ::
 (nat_lit 86, k86 P) ::
 (nat_lit 87, k87) ::
 (nat_lit 102, k102) ::
 (nat_lit 103, k103) ::
 (nat_lit 105, k105 P) ::
 (nat_lit 106, k106) ::
 (nat_lit 121, k121) ::
 (nat_lit 122, k122) ::
 (nat_lit 124, k124 P) ::
 (nat_lit 125, k125) ::
 (nat_lit 140, k140) ::
 (nat_lit 141, k141) ::
 (nat_lit 143, k143 P) ::
 (nat_lit 144, k144) ::
 (nat_lit 159, k159) ::
 (nat_lit 160, k160) ::
 (nat_lit 162, k162 P) ::
 (nat_lit 163, k163) ::
 (nat_lit 178, k178) ::
 (nat_lit 179, k179) ::
 (nat_lit 181, k181 P) ::
 (nat_lit 182, k182) ::
 (nat_lit 197, k197) ::
 (nat_lit 198, k198) ::
 (nat_lit 200, k200 P) ::
 (nat_lit 201, k201) ::
 (nat_lit 216, k216) ::
 (nat_lit 217, k217) ::
 (nat_lit 219, k219 P) ::
 (nat_lit 220, k220) ::
 (nat_lit 235, k235) ::
 (nat_lit 236, k236) ::
 (nat_lit 238, k238 P) ::
 (nat_lit 239, k239) ::
 (nat_lit 254, k254) ::
 (nat_lit 255, k255) ::
 (nat_lit 257, k257 P) ::
 (nat_lit 258, k258) ::
 (nat_lit 264, k264) ::
 (nat_lit 265, k265) ::
 (nat_lit 269, k269) ::
 (nat_lit 270, k270) ::
 (nat_lit 276, k276) ::
 (nat_lit 277, k277) ::
 (nat_lit 281, k281) ::
 (nat_lit 282, k282) ::
 (nat_lit 288, k288) ::
 (nat_lit 289, k289) ::
 (nat_lit 295, k295) ::
 (nat_lit 296, k296) ::
 (nat_lit 302, k302) ::
 (nat_lit 303, k303) ::
 (nat_lit 309, k309) ::
 (nat_lit 310, k310) ::
 (nat_lit 316, k316) ::
 (nat_lit 317, k317) ::
 (nat_lit 323, k323) ::
 (nat_lit 324, k324) ::
 (nat_lit 328, k328) ::
 (nat_lit 329, k329) ::
 (nat_lit 342, k342) ::
 (nat_lit 343, k343) ::
 (nat_lit 349, k349) ::
 (nat_lit 350, k350) ::
 (nat_lit 356, k356) ::
 (nat_lit 357, k357) ::
 (nat_lit 359, k359 P) ::
 (nat_lit 360, k360) ::
 (nat_lit 361, k361) ::
 (nat_lit 362, k362) ::
 (nat_lit 377, k377) ::
 (nat_lit 378, k378) ::
 (nat_lit 384, k384) ::
 (nat_lit 385, k385) ::
 (nat_lit 391, k391) ::
 (nat_lit 392, k392) ::
 (nat_lit 394, k394 P) ::
 (nat_lit 395, k395) ::
 (nat_lit 410, k410) ::
 (nat_lit 411, k411) ::
 (nat_lit 417, k417) ::
 (nat_lit 418, k418) ::
 (nat_lit 424, k424) ::
 (nat_lit 425, k425) ::
 (nat_lit 427, k427 P) ::
 (nat_lit 428, k428) ::
 (nat_lit 443, k443) ::
 (nat_lit 444, k444) ::
 (nat_lit 450, k450) ::
 (nat_lit 451, k451) ::
 (nat_lit 457, k457) ::
 (nat_lit 458, k458) ::
 (nat_lit 464, k464) ::
 (nat_lit 465, k465) ::
 (nat_lit 467, k467 P) ::
 (nat_lit 468, k468) ::
 (nat_lit 483, k483) ::
 (nat_lit 484, k484) ::
 (nat_lit 490, k490) ::
 (nat_lit 491, k491) ::
 (nat_lit 497, k497) ::
 (nat_lit 498, k498) ::
 (nat_lit 504, k504) ::
 (nat_lit 505, k505) ::
 (nat_lit 507, k507 P) ::
 (nat_lit 508, k508) ::
 (nat_lit 523, k523) ::
 (nat_lit 524, k524) ::
 (nat_lit 530, k530) ::
 (nat_lit 531, k531) ::
 (nat_lit 537, k537) ::
 (nat_lit 538, k538) ::
 (nat_lit 544, k544) ::
 (nat_lit 545, k545) ::
 (nat_lit 547, k547 P) ::
 (nat_lit 548, k548) ::
 (nat_lit 563, k563) ::
 (nat_lit 564, k564) ::
 (nat_lit 570, k570) ::
 (nat_lit 571, k571) ::
 (nat_lit 573, k573 P) ::
 (nat_lit 574, k574) ::
 (nat_lit 582, k582) ::
 (nat_lit 583, k583) ::
 (nat_lit 589, k589) ::
 (nat_lit 590, k590) ::
 (nat_lit 596, k596) ::
 (nat_lit 597, k597) ::
 (nat_lit 603, k603) ::
 (nat_lit 604, k604) ::
 (nat_lit 610, k610) ::
 (nat_lit 611, k611) ::
 (nat_lit 617, k617) ::
 (nat_lit 618, k618) ::
 (nat_lit 624, k624) ::
 (nat_lit 625, k625) ::
 (nat_lit 631, k631) ::
 (nat_lit 632, k632) ::
 (nat_lit 638, k638) ::
 (nat_lit 639, k639) ::
 (nat_lit 645, k645) ::
 (nat_lit 646, k646) ::
 (nat_lit 652, k652) ::
 (nat_lit 653, k653) ::
 (nat_lit 659, k659) ::
 (nat_lit 660, k660) ::
 (nat_lit 664, k664) ::
 (nat_lit 665, k665) ::
 (nat_lit 671, k671) ::
 (nat_lit 672, k672) ::
 (nat_lit 676, k676) ::
 (nat_lit 677, k677) ::
 (nat_lit 681, k681) ::
 (nat_lit 682, k682) ::
 (nat_lit 686, k686) ::
 (nat_lit 687, k687) ::
 (nat_lit 693, k693) ::
 (nat_lit 694, k694) ::
 (nat_lit 700, k700) ::
 (nat_lit 701, k701) ::
 (nat_lit 705, k705) ::
 (nat_lit 706, k706) ::
 (nat_lit 712, k712) ::
 (nat_lit 713, k713) ::
 (nat_lit 719, k719) ::
 (nat_lit 720, k720) ::
 (nat_lit 726, k726) ::
 (nat_lit 727, k727) ::
 (nat_lit 731, k731) ::
 (nat_lit 732, k732) ::
 (nat_lit 736, k736) ::
 (nat_lit 737, k737) ::
 (nat_lit 743, k743) ::
 (nat_lit 744, k744) ::
 (nat_lit 750, k750) ::
 (nat_lit 751, k751) ::
 (nat_lit 755, k755) ::
 (nat_lit 756, k756) ::
 (nat_lit 760, k760) ::
 (nat_lit 761, k761) ::
 (nat_lit 767, k767) ::
 (nat_lit 768, k768) ::
 (nat_lit 772, k772) ::
 (nat_lit 773, k773) ::
 (nat_lit 779, k779) ::
 (nat_lit 780, k780) ::
 (nat_lit 786, k786) ::
 (nat_lit 787, k787) ::
 (nat_lit 793, k793) ::
 (nat_lit 794, k794) ::
 (nat_lit 800, k800) ::
 (nat_lit 801, k801) ::
 (nat_lit 807, k807) ::
 (nat_lit 808, k808) ::
 (nat_lit 814, k814) ::
 (nat_lit 815, k815) ::
 (nat_lit 821, k821) ::
 (nat_lit 822, k822) ::
 []
end
end Mine
set_option maxHeartbeats 0
namespace Hd
noncomputable section
open PySem PySem.W PySem.Calls PyProof.Rows
noncomputable def put (t : BT) : Nat -> Obj -> BT := BT.rec (motive := fun _ => Nat -> Obj -> BT) (fun _ o => .node o .nil .nil) (fun v l r x y i o => match i with | 0 => .node o l r | j + 1 => bif Nat.beq (j % 2) 0 then .node v (x (j / 2) o) r else .node v l (y (j / 2) o)) t
noncomputable def bD (t : BT) (l : List (Nat × Obj)) : BT := l.foldl (fun t p => put t p.1 p.2) t
noncomputable def en (P : Params) (x : Str) (t : Nat) (v : Value) : DictEntry := ⟨PyData.keyHash P x, .str x t, v⟩
noncomputable def fo (s : Stmt) (n q m : Str) (t c : Nat) : Obj := ⟨.type "function", none, .func { name := n, qualname := q, params := L2.dg s, body := .stmts (L2.cu s), scope := L2.aC s, globals := 3, closure := [], defaults := .none, kwdefaults := .none, pyModule := .str m t, code := .ref c }, #[]⟩
noncomputable def pf (s : Stmt) (n q : Str) : Obj := ⟨.none, none, .func { name := n, qualname := q, params := L2.dg s, body := .stmts (L2.cu s), scope := L2.aC s, globals := 0, closure := [], defaults := .none, kwdefaults := .none }, #[]⟩
noncomputable def tu (l : List Value) : Obj := ⟨.type "tuple", none, .seq l.toArray, #[]⟩
def eT : Obj := tu []
def eF : Obj := { cls := .none, data := .fields #[] }
noncomputable def co (n q : Str) (a b c : Nat) (l k : Int) (f r : Nat) (t : Bool) (g : Int) (u : Nat) (x y z : Value) (v : Nat) (m : Int) (e : Nat) : Obj := { cls := .type "code", data := .fields #[.str n a, .str q b, .str "/claim/cut.py" c, .int l 0, .int k 0, .int 0 0, .int 0 0, .int f 0, .ref r, .bool t, .int g 0, .ref u, x, y, z, .ref v, .int m 0, .int l 0, .str "/claim/cut.py" e] }
def env : Env := { scope := pw_drawhouse_k22_no_rows.main.scope, locals := mainNs, globals := mainNs, cells := [], code := Value.ref 13, frame := some 14 }
def cE : Code := .body (behindTheImports pw_drawhouse_k22_no_rows) env
def fr : List Frame := [topFrame { line := 0, col := 0, endLine := 0, endCol := 0 }]
noncomputable def sl (a n : Nat) : List Stmt := ((behindTheImports pw_drawhouse_k22_no_rows).drop a).take n
def o13 : Obj := { cls := .type "code", data := .fields #[.str "<module>" 182, .str "<module>" 183, .str "/claim/cut.py" 184, .int 1 0, .int 0 0, .int 0 0, .int 0 0, .int 0 0, .ref 11, .bool false, .int 181 0, .ref 12, .none, .none, .none, .none, .int 185 0, .int 1 0, .str "/claim/cut.py" 186] }
def o14 : Obj := { cls := .type "frame", slots := #[some (.ref 13), some (.ref 3), some (.ref 3), none, some (.str "__main__" 164), none, some (.ref 0)] }
variable (P : Params) (r : List Obj)
def hA0 : List Obj := (boot_o_0 P) :: (boot_o_1 P) :: (boot_o_2 P) :: (boot_o_3 P) :: (boot_o_4 P) :: (boot_o_5 P) :: (boot_o_6 P) :: (boot_o_7 P) :: (boot_o_8 P) :: (boot_o_9 P) :: (boot_o_10 P) :: eT :: ({ cls := .none, data := .fields #[] }) :: o13 :: o14 :: r
def hA : Heap := ⟨Array.mk (hA0 P ([])), { }⟩
noncomputable def Lp (w : World) (os : OsState) : Option (Shared × Thread) := topGo treeTable pw_drawhouse_k22_no_rows w 11 (some (Value.ref 6)) 12 ⟨boot_heap w.params, Array.mk [], boot_drawn, boot_toks, os⟩ (topStub pw_drawhouse_k22_no_rows)
noncomputable def Rp (w : World) (os : OsState) : Option (Shared × Thread) := some (⟨hA w.params, Array.mk [], { }, nat_lit 187, os⟩, ⟨denote treeTable cE, cE, { line := 0, col := 0, endLine := 0, endCol := 0 }, fr⟩)
theorem rLp : Lp = Lp := rfl
name_quick Lp for Hd.Lp by Hd.rLp
theorem rRp : Rp = Rp := rfl
name_quick Rp for Hd.Rp by Hd.rRp
theorem qp : PySem.W.Fast.Lp = PySem.W.Fast.Rp := by kernel_rfl
theorem ep : Lp = Rp := PySem.W.Fast.Lp_eq.trans (qp.trans PySem.W.Fast.Rp_eq.symm)
def Xy : BT := bD .nil ((0, boot_o_0 P) :: (1, boot_o_1 P) :: (2, boot_o_2 P) :: (3, boot_o_3 P) :: (4, boot_o_4 P) :: (5, boot_o_5 P) :: (6, boot_o_6 P) :: (7, boot_o_7 P) :: (8, boot_o_8 P) :: (9, boot_o_9 P) :: (10, boot_o_10 P) :: (11, eT) :: [])
def t0 : BT := bD (Xy P) ((12, { cls := .none, data := .fields #[] }) :: (13, o13) :: (14, o14) :: [])
noncomputable def Lb (w : World) (os : OsState) : Option (Flow × Shared × Code × Pos) := segRun treeTable pw_drawhouse_k22_no_rows w 11 (some (Value.ref 6)) 1 1 ⟨hA w.params, Array.mk [], { }, nat_lit 187, os⟩ (blockOf (behindTheImports pw_drawhouse_k22_no_rows) env cE { line := 0, col := 0, endLine := 0, endCol := 0 } fr)
noncomputable def Rb (w : World) (os : OsState) : Option (Flow × Shared × Code × Pos) := some (.next, SharedT.abs ⟨t0 w.params, nat_lit 15, { }, Array.mk [], { }, nat_lit 187, os⟩, cE, { line := 0, col := 0, endLine := 0, endCol := 0 })
theorem rLb : Lb = Lb := rfl
name_quick Lb for Hd.Lb by Hd.rLb
theorem rRb : Rb = Rb := rfl
name_quick Rb for Hd.Rb by Hd.rRb
theorem qb : PySem.W.Fast.Lb = PySem.W.Fast.Rb := by kernel_rfl
theorem eb : Lb = Rb := PySem.W.Fast.Lb_eq.trans (qb.trans PySem.W.Fast.Rb_eq.symm)
noncomputable def n0 (P : Params) (r : List DictEntry) : List DictEntry := en P "__name__" 165 (.str "drawhouse.errors" 187) :: en P "__doc__" 166 .none :: en P "__package__" 167 .none :: en P "__loader__" 168 (.builtin "__main__.__loader__#opaque") :: en P "__spec__" 169 .none :: en P "__annotations__" 170 (.ref 6) :: en P "__builtins__" 171 (.ref 4) :: en P "__file__" 173 (.str "/claim/cut.py" 172) :: en P "__cached__" 174 .none :: en P "HouseError" 206 (.ref 24) :: en P "NoExpr" 222 (.ref 37) :: en P "TooWide" 238 (.ref 49) :: en P "NoText" 263 (.ref 68) :: en P "TooMany" 288 (.ref 87) :: en P "Twice" 313 (.ref 106) :: r
def o15 : Obj := tu [.type "ValueError"]
def o16 : Obj := { cls := .type "builtin_function_or_method", data := .fields #[.builtin "type.__prepare__", .type "type"] }
def o17 : Obj := { cls := .type "dict", data := .dict #[en P "__module__" 196 (.str "drawhouse.errors" 187), en P "__qualname__" 198 (.str "HouseError" 197), en P "__firstlineno__" 200 (.int 2 199), en P "__static_attributes__" 201 (.ref 22)] 4 }
def o20 : Obj := { cls := .type "code", data := .fields #[.str "HouseError" 191, .str "HouseError" 192, .str "/claim/cut.py" 193, .int 2 0, .int 0 0, .int 0 0, .int 0 0, .int 0 0, .ref 18, .bool false, .int 181 0, .ref 19, .none, .none, .none, .none, .int 194 0, .int 2 0, .str "/claim/cut.py" 195] }
def o21 : Obj := { cls := .type "frame", slots := #[some (.ref 20), some (.ref 3), some (.ref 17), none, some (.str "drawhouse.errors" 187), none, some (.ref 0)] }
def o26 : Obj := { cls := .type "super", data := .fields #[.ref 24, .ref 24, .ref 24] }
def o27 : Obj := { cls := .type "builtin_function_or_method", data := .fields #[.builtin "object.__init_subclass__", .ref 24] }
def o28 : Obj := tu [.ref 24]
def o30 : Obj := { cls := .type "dict", data := .dict #[en P "__module__" 214 (.str "drawhouse.errors" 187), en P "__qualname__" 216 (.str "NoExpr" 215), en P "__firstlineno__" 218 (.int 4 217), en P "__static_attributes__" 219 (.ref 35)] 4 }
def o33 : Obj := { cls := .type "code", data := .fields #[.str "NoExpr" 209, .str "NoExpr" 210, .str "/claim/cut.py" 211, .int 4 0, .int 0 0, .int 0 0, .int 0 0, .int 0 0, .ref 31, .bool false, .int 181 0, .ref 32, .none, .none, .none, .none, .int 212 0, .int 4 0, .str "/claim/cut.py" 213] }
def o34 : Obj := { cls := .type "frame", slots := #[some (.ref 33), some (.ref 3), some (.ref 30), none, some (.str "drawhouse.errors" 187), none, some (.ref 0)] }
def o38 : Obj := { cls := .type "super", data := .fields #[.ref 37, .ref 37, .ref 37] }
def o39 : Obj := { cls := .type "builtin_function_or_method", data := .fields #[.builtin "object.__init_subclass__", .ref 37] }
def o42 : Obj := { cls := .type "dict", data := .dict #[en P "__module__" 230 (.str "drawhouse.errors" 187), en P "__qualname__" 232 (.str "TooWide" 231), en P "__firstlineno__" 234 (.int 6 233), en P "__static_attributes__" 235 (.ref 47)] 4 }
def o45 : Obj := { cls := .type "code", data := .fields #[.str "TooWide" 225, .str "TooWide" 226, .str "/claim/cut.py" 227, .int 6 0, .int 0 0, .int 0 0, .int 0 0, .int 0 0, .ref 43, .bool false, .int 181 0, .ref 44, .none, .none, .none, .none, .int 228 0, .int 6 0, .str "/claim/cut.py" 229] }
def o46 : Obj := { cls := .type "frame", slots := #[some (.ref 45), some (.ref 3), some (.ref 42), none, some (.str "drawhouse.errors" 187), none, some (.ref 0)] }
def o50 : Obj := { cls := .type "super", data := .fields #[.ref 49, .ref 49, .ref 49] }
def o51 : Obj := { cls := .type "builtin_function_or_method", data := .fields #[.builtin "object.__init_subclass__", .ref 49] }
def o54 : Obj := { cls := .type "dict", data := .dict #[en P "__module__" 246 (.str "drawhouse.errors" 187), en P "__qualname__" 248 (.str "NoText" 247), en P "__firstlineno__" 250 (.int 8 249), en P "__init__" 258 (.ref 65), en P "__static_attributes__" 260 (.ref 66)] 5 }
def o56 : Obj := { cls := .none, data := .fields #[.int 10 0, .int 4 0, .ref 64] }
def o57 : Obj := { cls := .type "code", data := .fields #[.str "NoText" 241, .str "NoText" 242, .str "/claim/cut.py" 243, .int 8 0, .int 0 0, .int 0 0, .int 0 0, .int 0 0, .ref 55, .bool false, .int 181 0, .ref 56, .none, .none, .none, .none, .int 244 0, .int 8 0, .str "/claim/cut.py" 245] }
def o58 : Obj := { cls := .type "frame", slots := #[some (.ref 57), some (.ref 3), some (.ref 54), none, some (.str "drawhouse.errors" 187), none, some (.ref 0)] }
def o61 : Obj := tu [.str "self" 254, .str "at" 255]
def o63 : Obj := pf (Mine.sb 4 0) "__init__" "NoText.__init__"
def o66 : Obj := tu [.str "at" 259]
def o69 : Obj := { cls := .type "super", data := .fields #[.ref 68, .ref 68, .ref 68] }
def o70 : Obj := { cls := .type "builtin_function_or_method", data := .fields #[.builtin "object.__init_subclass__", .ref 68] }
def o73 : Obj := { cls := .type "dict", data := .dict #[en P "__module__" 271 (.str "drawhouse.errors" 187), en P "__qualname__" 273 (.str "TooMany" 272), en P "__firstlineno__" 275 (.int 13 274), en P "__init__" 283 (.ref 84), en P "__static_attributes__" 285 (.ref 85)] 5 }
def o75 : Obj := { cls := .none, data := .fields #[.int 15 0, .int 4 0, .ref 83] }
def o76 : Obj := { cls := .type "code", data := .fields #[.str "TooMany" 266, .str "TooMany" 267, .str "/claim/cut.py" 268, .int 13 0, .int 0 0, .int 0 0, .int 0 0, .int 0 0, .ref 74, .bool false, .int 181 0, .ref 75, .none, .none, .none, .none, .int 269 0, .int 13 0, .str "/claim/cut.py" 270] }
def o77 : Obj := { cls := .type "frame", slots := #[some (.ref 76), some (.ref 3), some (.ref 73), none, some (.str "drawhouse.errors" 187), none, some (.ref 0)] }
def o80 : Obj := tu [.str "self" 279, .str "at" 280]
def o82 : Obj := pf (Mine.sb 5 0) "__init__" "TooMany.__init__"
def o85 : Obj := tu [.str "at" 284]
def o88 : Obj := { cls := .type "super", data := .fields #[.ref 87, .ref 87, .ref 87] }
def o89 : Obj := { cls := .type "builtin_function_or_method", data := .fields #[.builtin "object.__init_subclass__", .ref 87] }
def o92 : Obj := { cls := .type "dict", data := .dict #[en P "__module__" 296 (.str "drawhouse.errors" 187), en P "__qualname__" 298 (.str "Twice" 297), en P "__firstlineno__" 300 (.int 18 299), en P "__init__" 308 (.ref 103), en P "__static_attributes__" 310 (.ref 104)] 5 }
def o94 : Obj := { cls := .none, data := .fields #[.int 20 0, .int 4 0, .ref 102] }
def o95 : Obj := { cls := .type "code", data := .fields #[.str "Twice" 291, .str "Twice" 292, .str "/claim/cut.py" 293, .int 18 0, .int 0 0, .int 0 0, .int 0 0, .int 0 0, .ref 93, .bool false, .int 181 0, .ref 94, .none, .none, .none, .none, .int 294 0, .int 18 0, .str "/claim/cut.py" 295] }
def o96 : Obj := { cls := .type "frame", slots := #[some (.ref 95), some (.ref 3), some (.ref 92), none, some (.str "drawhouse.errors" 187), none, some (.ref 0)] }
def o99 : Obj := tu [.str "self" 304, .str "at" 305]
def UJ : Obj := pf (Mine.sb 6 0) "__init__" "Twice.__init__"
def QG : Obj := tu [.str "at" 309]
def Ww : Obj := { cls := .type "super", data := .fields #[.ref 106, .ref 106, .ref 106] }
def Qp : Obj := { cls := .type "builtin_function_or_method", data := .fields #[.builtin "object.__init_subclass__", .ref 106] }
def YL : BT := bD (t0 P) ((3, { cls := .type "dict", data := .dict (List.toArray (n0 P ([]))) 15 }) :: (12, { cls := .none, data := .fields #[.int 2 0, .int 0 0, .ref 20, .int 4 0, .int 0 0, .ref 33, .int 6 0, .int 0 0, .ref 45, .int 8 0, .int 0 0, .ref 57, .int 13 0, .int 0 0, .ref 76, .int 18 0, .int 0 0, .ref 95] }) :: (15, o15) :: (16, o16) :: (17, o17 P) :: (18, eT) :: (19, eF) :: (20, o20) :: (21, o21) :: (22, eT) :: (23, Mine.k23 P) :: (24, { cls := .type "type", data := .cls { name := Str.ofString "HouseError", bases := [.type "ValueError"], mro := [.ref 24, .type "ValueError", .type "Exception", .type "BaseException", .type "object"], ns := 23, qualname := Str.ofString "HouseError", subclasses := [.ref 37, .ref 49, .ref 68, .ref 87, .ref 106] }, slots := #[some (.ref 15), none, some (.str "HouseError" 189), some (.str "HouseError" 197), some (.builtin "ValueError.__new__"), some (.bool true)] }) :: [])
def Xm : BT := bD (YL P) ((25, Mine.k25) :: (26, o26) :: (27, o27) :: (28, o28) :: (29, o16) :: (30, o30 P) :: (31, eT) :: (32, eF) :: (33, o33) :: (34, o34) :: (35, eT) :: (36, Mine.k36 P) :: [])
def Ym : BT := bD (Xm P) ((37, Mine.k37) :: (38, o38) :: (39, o39) :: (40, o28) :: (41, o16) :: (42, o42 P) :: (43, eT) :: (44, eF) :: (45, o45) :: (46, o46) :: (47, eT) :: (48, Mine.k48 P) :: [])
def Ye : BT := bD (Ym P) ((49, Mine.k49) :: (50, o50) :: (51, o51) :: (52, o28) :: (53, o16) :: (54, o54 P) :: (55, eT) :: (56, o56) :: (57, o57) :: (58, o58) :: (59, eT) :: (60, eF) :: [])
def Yc : BT := bD (Ye P) ((61, o61) :: (62, eT) :: (63, o63) :: (64, Mine.k64) :: (65, Mine.k65) :: (66, o66) :: (67, Mine.k67 P) :: (68, Mine.k68) :: (69, o69) :: (70, o70) :: (71, o28) :: (72, o16) :: [])
def Yj : BT := bD (Yc P) ((73, o73 P) :: (74, eT) :: (75, o75) :: (76, o76) :: (77, o77) :: (78, eT) :: (79, eF) :: (80, o80) :: (81, eT) :: (82, o82) :: (83, Mine.k83) :: (84, Mine.k84) :: [])
def XN : BT := bD (Yj P) ((85, o85) :: (86, Mine.k86 P) :: (87, Mine.k87) :: (88, o88) :: (89, o89) :: (90, o28) :: (91, o16) :: (92, o92 P) :: (93, eT) :: (94, o94) :: (95, o95) :: (96, o96) :: [])
def t1 : BT := bD (XN P) ((97, eT) :: (98, eF) :: (99, o99) :: (100, eT) :: (101, UJ) :: (102, Mine.k102) :: (103, Mine.k103) :: (104, QG) :: (105, Mine.k105 P) :: (106, Mine.k106) :: (107, Ww) :: (108, Qp) :: [])
def L0 (w : World) (os : OsState) : Option (Flow × SharedT × Code × Pos) := segRunT treeTable pw_drawhouse_k22_no_rows w 11 (some (Value.ref 6)) 1 1357 ⟨t0 w.params, nat_lit 15, { }, Array.mk [], { }, nat_lit 187, os⟩ (piecesOf (sl 0 7) env cE { line := 0, col := 0, endLine := 0, endCol := 0 } fr)
def R0 (w : World) (os : OsState) : Option (Flow × SharedT × Code × Pos) := some (.next, ⟨t1 w.params, nat_lit 109, { }, Array.mk [], { }, nat_lit 314, os⟩, cE, { line := 18, col := 0, endLine := 22, endCol := 20 })
theorem rL0 : L0 = L0 := rfl
name_quick L0 for Hd.L0 by Hd.rL0
theorem rR0 : R0 = R0 := rfl
name_quick R0 for Hd.R0 by Hd.rR0
theorem q0 : PySem.W.Fast.L0 = PySem.W.Fast.R0 := by kernel_rfl
theorem e0 : L0 = R0 := PySem.W.Fast.L0_eq.trans (q0.trans PySem.W.Fast.R0_eq.symm)
def n1 (P : Params) (r : List DictEntry) : List DictEntry := en P "Double" 338 (.ref 125) :: en P "Orphan" 363 (.ref 144) :: en P "Clash" 388 (.ref 163) :: en P "NoRow" 413 (.ref 182) :: en P "NoPart" 438 (.ref 201) :: en P "NoDrop" 463 (.ref 220) :: r
def o111 : Obj := { cls := .type "dict", data := .dict #[en P "__module__" 321 (.str "drawhouse.errors" 187), en P "__qualname__" 323 (.str "Double" 322), en P "__firstlineno__" 325 (.int 23 324), en P "__init__" 333 (.ref 122), en P "__static_attributes__" 335 (.ref 123)] 5 }
def Sg : Obj := { cls := .none, data := .fields #[.int 25 0, .int 4 0, .ref 121] }
def N7 : Obj := { cls := .type "code", data := .fields #[.str "Double" 316, .str "Double" 317, .str "/claim/cut.py" 318, .int 23 0, .int 0 0, .int 0 0, .int 0 0, .int 0 0, .ref 112, .bool false, .int 181 0, .ref 113, .none, .none, .none, .none, .int 319 0, .int 23 0, .str "/claim/cut.py" 320] }
def R8 : Obj := { cls := .type "frame", slots := #[some (.ref 114), some (.ref 3), some (.ref 111), none, some (.str "drawhouse.errors" 187), none, some (.ref 0)] }
def UG : Obj := tu [.str "self" 329, .str "at" 330]
def Np : Obj := pf (Mine.sb 7 0) "__init__" "Double.__init__"
def NZ : Obj := tu [.str "at" 334]
def Vu : Obj := { cls := .type "super", data := .fields #[.ref 125, .ref 125, .ref 125] }
def Rw : Obj := { cls := .type "builtin_function_or_method", data := .fields #[.builtin "object.__init_subclass__", .ref 125] }
def Ni : Obj := { cls := .type "dict", data := .dict #[en P "__module__" 346 (.str "drawhouse.errors" 187), en P "__qualname__" 348 (.str "Orphan" 347), en P "__firstlineno__" 350 (.int 28 349), en P "__init__" 358 (.ref 141), en P "__static_attributes__" 360 (.ref 142)] 5 }
def Uo : Obj := { cls := .none, data := .fields #[.int 30 0, .int 4 0, .ref 140] }
def Td : Obj := { cls := .type "code", data := .fields #[.str "Orphan" 341, .str "Orphan" 342, .str "/claim/cut.py" 343, .int 28 0, .int 0 0, .int 0 0, .int 0 0, .int 0 0, .ref 131, .bool false, .int 181 0, .ref 132, .none, .none, .none, .none, .int 344 0, .int 28 0, .str "/claim/cut.py" 345] }
def Vd : Obj := { cls := .type "frame", slots := #[some (.ref 133), some (.ref 3), some (.ref 130), none, some (.str "drawhouse.errors" 187), none, some (.ref 0)] }
def RG : Obj := tu [.str "self" 354, .str "at" 355]
def WT : Obj := pf (Mine.sb 8 0) "__init__" "Orphan.__init__"
def QB : Obj := tu [.str "at" 359]
def R9 : Obj := { cls := .type "super", data := .fields #[.ref 144, .ref 144, .ref 144] }
def N6 : Obj := { cls := .type "builtin_function_or_method", data := .fields #[.builtin "object.__init_subclass__", .ref 144] }
def Ra : Obj := { cls := .type "dict", data := .dict #[en P "__module__" 371 (.str "drawhouse.errors" 187), en P "__qualname__" 373 (.str "Clash" 372), en P "__firstlineno__" 375 (.int 33 374), en P "__init__" 383 (.ref 160), en P "__static_attributes__" 385 (.ref 161)] 5 }
def Vt : Obj := { cls := .none, data := .fields #[.int 35 0, .int 4 0, .ref 159] }
def QM : Obj := { cls := .type "code", data := .fields #[.str "Clash" 366, .str "Clash" 367, .str "/claim/cut.py" 368, .int 33 0, .int 0 0, .int 0 0, .int 0 0, .int 0 0, .ref 150, .bool false, .int 181 0, .ref 151, .none, .none, .none, .none, .int 369 0, .int 33 0, .str "/claim/cut.py" 370] }
def Oj : Obj := { cls := .type "frame", slots := #[some (.ref 152), some (.ref 3), some (.ref 149), none, some (.str "drawhouse.errors" 187), none, some (.ref 0)] }
def Tn : Obj := tu [.str "self" 379, .str "at" 380]
def Tg : Obj := pf (Mine.sb 9 0) "__init__" "Clash.__init__"
def Pz : Obj := tu [.str "at" 384]
def Wa : Obj := { cls := .type "super", data := .fields #[.ref 163, .ref 163, .ref 163] }
def W3 : Obj := { cls := .type "builtin_function_or_method", data := .fields #[.builtin "object.__init_subclass__", .ref 163] }
def RP : Obj := { cls := .type "dict", data := .dict #[en P "__module__" 396 (.str "drawhouse.errors" 187), en P "__qualname__" 398 (.str "NoRow" 397), en P "__firstlineno__" 400 (.int 38 399), en P "__init__" 408 (.ref 179), en P "__static_attributes__" 410 (.ref 180)] 5 }
def Qi : Obj := { cls := .none, data := .fields #[.int 40 0, .int 4 0, .ref 178] }
def Wr : Obj := { cls := .type "code", data := .fields #[.str "NoRow" 391, .str "NoRow" 392, .str "/claim/cut.py" 393, .int 38 0, .int 0 0, .int 0 0, .int 0 0, .int 0 0, .ref 169, .bool false, .int 181 0, .ref 170, .none, .none, .none, .none, .int 394 0, .int 38 0, .str "/claim/cut.py" 395] }
def RL : Obj := { cls := .type "frame", slots := #[some (.ref 171), some (.ref 3), some (.ref 168), none, some (.str "drawhouse.errors" 187), none, some (.ref 0)] }
def Ss : Obj := tu [.str "self" 404, .str "at" 405]
def Qh : Obj := pf (Mine.sb 10 0) "__init__" "NoRow.__init__"
def Wo : Obj := tu [.str "at" 409]
def RV : Obj := { cls := .type "super", data := .fields #[.ref 182, .ref 182, .ref 182] }
def Vh : Obj := { cls := .type "builtin_function_or_method", data := .fields #[.builtin "object.__init_subclass__", .ref 182] }
def Pr : Obj := { cls := .type "dict", data := .dict #[en P "__module__" 421 (.str "drawhouse.errors" 187), en P "__qualname__" 423 (.str "NoPart" 422), en P "__firstlineno__" 425 (.int 43 424), en P "__init__" 433 (.ref 198), en P "__static_attributes__" 435 (.ref 199)] 5 }
def M4 : Obj := { cls := .none, data := .fields #[.int 45 0, .int 4 0, .ref 197] }
def Ru : Obj := { cls := .type "code", data := .fields #[.str "NoPart" 416, .str "NoPart" 417, .str "/claim/cut.py" 418, .int 43 0, .int 0 0, .int 0 0, .int 0 0, .int 0 0, .ref 188, .bool false, .int 181 0, .ref 189, .none, .none, .none, .none, .int 419 0, .int 43 0, .str "/claim/cut.py" 420] }
def Xb : Obj := { cls := .type "frame", slots := #[some (.ref 190), some (.ref 3), some (.ref 187), none, some (.str "drawhouse.errors" 187), none, some (.ref 0)] }
def Vf : Obj := tu [.str "self" 429, .str "address" 430]
def Ws : Obj := pf (Mine.sb 11 0) "__init__" "NoPart.__init__"
def O1 : Obj := tu [.str "address" 434]
def Nv : Obj := { cls := .type "super", data := .fields #[.ref 201, .ref 201, .ref 201] }
def Uv : Obj := { cls := .type "builtin_function_or_method", data := .fields #[.builtin "object.__init_subclass__", .ref 201] }
def Ry : Obj := { cls := .type "dict", data := .dict #[en P "__module__" 446 (.str "drawhouse.errors" 187), en P "__qualname__" 448 (.str "NoDrop" 447), en P "__firstlineno__" 450 (.int 48 449), en P "__init__" 458 (.ref 217), en P "__static_attributes__" 460 (.ref 218)] 5 }
def Xc : Obj := { cls := .none, data := .fields #[.int 50 0, .int 4 0, .ref 216] }
def Qn : Obj := { cls := .type "code", data := .fields #[.str "NoDrop" 441, .str "NoDrop" 442, .str "/claim/cut.py" 443, .int 48 0, .int 0 0, .int 0 0, .int 0 0, .int 0 0, .ref 207, .bool false, .int 181 0, .ref 208, .none, .none, .none, .none, .int 444 0, .int 48 0, .str "/claim/cut.py" 445] }
def WK : Obj := { cls := .type "frame", slots := #[some (.ref 209), some (.ref 3), some (.ref 206), none, some (.str "drawhouse.errors" 187), none, some (.ref 0)] }
def Qx : Obj := tu [.str "self" 454, .str "address" 455]
def Qk : Obj := pf (Mine.sb 12 0) "__init__" "NoDrop.__init__"
def PB : Obj := tu [.str "address" 459]
def W9 : Obj := { cls := .type "super", data := .fields #[.ref 220, .ref 220, .ref 220] }
def T6 : Obj := { cls := .type "builtin_function_or_method", data := .fields #[.builtin "object.__init_subclass__", .ref 220] }
def Yz : BT := bD (t1 P) ((3, { cls := .type "dict", data := .dict (List.toArray (n0 P (n1 P ([])))) 21 }) :: (12, { cls := .none, data := .fields #[.int 2 0, .int 0 0, .ref 20, .int 4 0, .int 0 0, .ref 33, .int 6 0, .int 0 0, .ref 45, .int 8 0, .int 0 0, .ref 57, .int 13 0, .int 0 0, .ref 76, .int 18 0, .int 0 0, .ref 95, .int 23 0, .int 0 0, .ref 114, .int 28 0, .int 0 0, .ref 133, .int 33 0, .int 0 0, .ref 152, .int 38 0, .int 0 0, .ref 171, .int 43 0, .int 0 0, .ref 190, .int 48 0, .int 0 0, .ref 209] }) :: (24, { cls := .type "type", data := .cls { name := Str.ofString "HouseError", bases := [.type "ValueError"], mro := [.ref 24, .type "ValueError", .type "Exception", .type "BaseException", .type "object"], ns := 23, qualname := Str.ofString "HouseError", subclasses := [.ref 37, .ref 49, .ref 68, .ref 87, .ref 106, .ref 125, .ref 144, .ref 163, .ref 182, .ref 201, .ref 220] }, slots := #[some (.ref 15), none, some (.str "HouseError" 189), some (.str "HouseError" 197), some (.builtin "ValueError.__new__"), some (.bool true)] }) :: (109, o28) :: (110, o16) :: (111, o111 P) :: (112, eT) :: (113, Sg) :: (114, N7) :: (115, R8) :: (116, eT) :: (117, eF) :: [])
def Xf : BT := bD (Yz P) ((118, UG) :: (119, eT) :: (120, Np) :: (121, Mine.k121) :: (122, Mine.k122) :: (123, NZ) :: (124, Mine.k124 P) :: (125, Mine.k125) :: (126, Vu) :: (127, Rw) :: (128, o28) :: (129, o16) :: [])
def XJ : BT := bD (Xf P) ((130, Ni P) :: (131, eT) :: (132, Uo) :: (133, Td) :: (134, Vd) :: (135, eT) :: (136, eF) :: (137, RG) :: (138, eT) :: (139, WT) :: (140, Mine.k140) :: (141, Mine.k141) :: [])
def Xz : BT := bD (XJ P) ((142, QB) :: (143, Mine.k143 P) :: (144, Mine.k144) :: (145, R9) :: (146, N6) :: (147, o28) :: (148, o16) :: (149, Ra P) :: (150, eT) :: (151, Vt) :: (152, QM) :: (153, Oj) :: [])
def YG : BT := bD (Xz P) ((154, eT) :: (155, eF) :: (156, Tn) :: (157, eT) :: (158, Tg) :: (159, Mine.k159) :: (160, Mine.k160) :: (161, Pz) :: (162, Mine.k162 P) :: (163, Mine.k163) :: (164, Wa) :: (165, W3) :: [])
def X7 : BT := bD (YG P) ((166, o28) :: (167, o16) :: (168, RP P) :: (169, eT) :: (170, Qi) :: (171, Wr) :: (172, RL) :: (173, eT) :: (174, eF) :: (175, Ss) :: (176, eT) :: (177, Qh) :: [])
def Yh : BT := bD (X7 P) ((178, Mine.k178) :: (179, Mine.k179) :: (180, Wo) :: (181, Mine.k181 P) :: (182, Mine.k182) :: (183, RV) :: (184, Vh) :: (185, o28) :: (186, o16) :: (187, Pr P) :: (188, eT) :: (189, M4) :: [])
def Yd : BT := bD (Yh P) ((190, Ru) :: (191, Xb) :: (192, eT) :: (193, eF) :: (194, Vf) :: (195, eT) :: (196, Ws) :: (197, Mine.k197) :: (198, Mine.k198) :: (199, O1) :: (200, Mine.k200 P) :: (201, Mine.k201) :: [])
def Xu : BT := bD (Yd P) ((202, Nv) :: (203, Uv) :: (204, o28) :: (205, o16) :: (206, Ry P) :: (207, eT) :: (208, Xc) :: (209, Qn) :: (210, WK) :: (211, eT) :: (212, eF) :: (213, Qx) :: [])
def t2 : BT := bD (Xu P) ((214, eT) :: (215, Qk) :: (216, Mine.k216) :: (217, Mine.k217) :: (218, PB) :: (219, Mine.k219 P) :: (220, Mine.k220) :: (221, W9) :: (222, T6) :: [])
def L1 (w : World) (os : OsState) : Option (Flow × SharedT × Code × Pos) := segRunT treeTable pw_drawhouse_k22_no_rows w 11 (some (Value.ref 6)) 1 1471 ⟨t1 w.params, nat_lit 109, { }, Array.mk [], { }, nat_lit 314, os⟩ (piecesOf (sl 7 6) env cE { line := 18, col := 0, endLine := 22, endCol := 20 } fr)
def R1 (w : World) (os : OsState) : Option (Flow × SharedT × Code × Pos) := some (.next, ⟨t2 w.params, nat_lit 223, { }, Array.mk [], { }, nat_lit 464, os⟩, cE, { line := 48, col := 0, endLine := 52, endCol := 30 })
theorem rL1 : L1 = L1 := rfl
name_quick L1 for Hd.L1 by Hd.rL1
theorem rR1 : R1 = R1 := rfl
name_quick R1 for Hd.R1 by Hd.rR1
theorem q1 : PySem.W.Fast.L1 = PySem.W.Fast.R1 := by kernel_rfl
theorem e1 : L1 = R1 := PySem.W.Fast.L1_eq.trans (q1.trans PySem.W.Fast.R1_eq.symm)
def n2 (P : Params) (r : List DictEntry) : List DictEntry := en P "__name__" 165 (.str "drawhouse.rows" 621) :: en P "__doc__" 166 .none :: en P "__package__" 167 .none :: en P "__loader__" 168 (.builtin "__main__.__loader__#opaque") :: en P "__spec__" 169 .none :: en P "__annotations__" 170 (.ref 6) :: en P "__builtins__" 171 (.ref 4) :: en P "__file__" 173 (.str "/claim/cut.py" 172) :: en P "__cached__" 174 .none :: en P "HouseError" 206 (.ref 24) :: en P "NoExpr" 222 (.ref 37) :: en P "TooWide" 238 (.ref 49) :: en P "NoText" 263 (.ref 68) :: en P "TooMany" 288 (.ref 87) :: en P "Twice" 313 (.ref 106) :: r
def n3 (P : Params) (r : List DictEntry) : List DictEntry := en P "NoName" 488 (.ref 239) :: en P "Fault" 519 (.ref 258) :: en P "LETTERS" 523 (.str "abcdefghijklmnopqrstuvwxyz" 522) :: en P "MOST_LETTERS" 525 (.int 8 524) :: en P "MOST_NAMES" 527 (.int 3 526) :: en P "is_name" 533 (.ref 265) :: en P "are_names" 539 (.ref 270) :: en P "is_address" 546 (.ref 277) :: en P "FIGURES" 550 (.str "0123456789" 549) :: en P "MOST_FIGURES" 552 (.int 20 551) :: en P "MOST_TERMS" 554 (.int 6 553) :: en P "MOST_STEPS" 556 (.int 4 555) :: en P "is_number" 562 (.ref 282) :: en P "read_path" 569 (.ref 289) :: en P "read_term" 577 (.ref 296) :: en P "read_sign" 584 (.ref 303) :: en P "read_expr" 594 (.ref 310) :: en P "show_term" 603 (.ref 317) :: en P "show_expr" 614 (.ref 324) :: en P "has_call" 620 (.ref 329) :: en P "Row" 663 (.ref 360) :: en P "Let" 704 (.ref 395) :: r
def PX : Obj := { cls := .type "dict", data := .dict #[en P "__module__" 471 (.str "drawhouse.errors" 187), en P "__qualname__" 473 (.str "NoName" 472), en P "__firstlineno__" 475 (.int 53 474), en P "__init__" 483 (.ref 236), en P "__static_attributes__" 485 (.ref 237)] 5 }
def PN : Obj := { cls := .none, data := .fields #[.int 55 0, .int 4 0, .ref 235] }
def V0 : Obj := { cls := .type "code", data := .fields #[.str "NoName" 466, .str "NoName" 467, .str "/claim/cut.py" 468, .int 53 0, .int 0 0, .int 0 0, .int 0 0, .int 0 0, .ref 226, .bool false, .int 181 0, .ref 227, .none, .none, .none, .none, .int 469 0, .int 53 0, .str "/claim/cut.py" 470] }
def Qj : Obj := { cls := .type "frame", slots := #[some (.ref 228), some (.ref 3), some (.ref 225), none, some (.str "drawhouse.errors" 187), none, some (.ref 0)] }
def W7 : Obj := tu [.str "self" 479, .str "name" 480]
def Qe : Obj := pf (Mine.sb 13 0) "__init__" "NoName.__init__"
def Uk : Obj := tu [.str "name" 484]
def Qc : Obj := { cls := .type "super", data := .fields #[.ref 239, .ref 239, .ref 239] }
def P0 : Obj := { cls := .type "builtin_function_or_method", data := .fields #[.builtin "object.__init_subclass__", .ref 239] }
def S6 : Obj := { cls := .type "dict", data := .dict #[en P "__module__" 496 (.str "drawhouse.errors" 187), en P "__qualname__" 498 (.str "Fault" 497), en P "__firstlineno__" 500 (.int 58 499), en P "__init__" 511 (.ref 255), en P "__static_attributes__" 516 (.ref 256)] 5 }
def Uu : Obj := { cls := .none, data := .fields #[.int 60 0, .int 4 0, .ref 254] }
def Ve : Obj := { cls := .type "code", data := .fields #[.str "Fault" 491, .str "Fault" 492, .str "/claim/cut.py" 493, .int 58 0, .int 0 0, .int 0 0, .int 0 0, .int 0 0, .ref 245, .bool false, .int 181 0, .ref 246, .none, .none, .none, .none, .int 494 0, .int 58 0, .str "/claim/cut.py" 495] }
def Vs : Obj := { cls := .type "frame", slots := #[some (.ref 247), some (.ref 3), some (.ref 244), none, some (.str "drawhouse.errors" 187), none, some (.ref 0)] }
def PL : Obj := tu [.str "self" 504, .str "word" 505, .str "trail" 506, .str "whose" 507, .str "name" 508]
def Uh : Obj := pf (Mine.sb 14 0) "__init__" "Fault.__init__"
def Tq : Obj := tu [.str "name" 512, .str "trail" 513, .str "whose" 514, .str "word" 515]
def Xd : Obj := { cls := .type "super", data := .fields #[.ref 258, .ref 258, .ref 258] }
def Sh : Obj := { cls := .type "builtin_function_or_method", data := .fields #[.builtin "object.__init_subclass__", .ref 258] }
def Vq : Obj := pf (Mine.top 19) "is_name" "is_name"
def Qy : Obj := pf (Mine.top 20) "are_names" "are_names"
def Sy : Obj := tu [.str "thing" 543]
def Wt : Obj := pf (Mine.top 21) "is_address" "is_address"
def Px : Obj := pf (Mine.top 27) "is_number" "is_number"
def Rm : Obj := tu [.str "word" 566]
def RJ : Obj := pf (Mine.top 28) "read_path" "read_path"
def Qa : Obj := tu [.str "sign" 573, .str "word" 574]
def Uy : Obj := pf (Mine.top 29) "read_term" "read_term"
def WW : Obj := tu [.str "word" 581]
def VG : Obj := pf (Mine.top 30) "read_sign" "read_sign"
def W2 : Obj := tu [.str "text" 588, .str "words" 589, .str "terms" 590, .str "at" 591]
def Ri : Obj := pf (Mine.top 31) "read_expr" "read_expr"
def SJ : Obj := tu [.str "kind" 598, .str "thing" 599, .str "path" 600]
def QC : Obj := pf (Mine.top 32) "show_term" "show_term"
def Wg : Obj := tu [.str "terms" 607, .str "shown" 608, .str "sign" 609, .str "kind" 610, .str "thing" 611]
def NQ : Obj := pf (Mine.top 33) "show_expr" "show_expr"
def Ny : Obj := pf (Mine.top 34) "has_call" "has_call"
def Wm : Obj := { cls := .type "dict", data := .dict #[en P "__module__" 630 (.str "drawhouse.rows" 621), en P "__qualname__" 632 (.str "Row" 631), en P "__firstlineno__" 634 (.int 137 633), en P "binds" 641 (.ref 343), en P "asked" 648 (.ref 350), en P "said" 655 (.ref 357), en P "__static_attributes__" 656 (.ref 358)] 7 }
def Q3 : Obj := { cls := .none, data := .fields #[.int 139 0, .int 4 0, .ref 342, .int 142 0, .int 4 0, .ref 349, .int 145 0, .int 4 0, .ref 356] }
def Nm : Obj := { cls := .type "code", data := .fields #[.str "Row" 625, .str "Row" 626, .str "/claim/cut.py" 627, .int 137 0, .int 0 0, .int 0 0, .int 0 0, .int 0 0, .ref 333, .bool false, .int 181 0, .ref 334, .none, .none, .none, .none, .int 628 0, .int 137 0, .str "/claim/cut.py" 629] }
def PQ : Obj := { cls := .type "frame", slots := #[some (.ref 335), some (.ref 3), some (.ref 332), none, some (.str "drawhouse.rows" 621), none, some (.ref 0)] }
def NK : Obj := tu [.str "self" 638]
def TV : Obj := pf (Mine.sb 36 0) "binds" "Row.binds"
def O6 : Obj := tu [.str "self" 645]
def Py : Obj := pf (Mine.sb 36 1) "asked" "Row.asked"
def Wi : Obj := tu [.str "self" 652]
def Sv : Obj := pf (Mine.sb 36 2) "said" "Row.said"
def Rx : Obj := { cls := .type "super", data := .fields #[.ref 360, .ref 360, .ref 360] }
def VH : Obj := { cls := .type "builtin_function_or_method", data := .fields #[.builtin "object.__init_subclass__", .ref 360] }
def sV : Obj := tu [.ref 360]
def Um : Obj := { cls := .type "dict", data := .dict #[en P "__module__" 671 (.str "drawhouse.rows" 621), en P "__qualname__" 673 (.str "Let" 672), en P "__firstlineno__" 675 (.int 147 674), en P "__init__" 684 (.ref 378), en P "binds" 691 (.ref 385), en P "said" 698 (.ref 392), en P "__static_attributes__" 701 (.ref 393)] 7 }
def Nx : Obj := { cls := .none, data := .fields #[.int 149 0, .int 4 0, .ref 377, .int 153 0, .int 4 0, .ref 384, .int 156 0, .int 4 0, .ref 391] }
def Nz : Obj := { cls := .type "code", data := .fields #[.str "Let" 666, .str "Let" 667, .str "/claim/cut.py" 668, .int 147 0, .int 0 0, .int 0 0, .int 0 0, .int 0 0, .ref 368, .bool false, .int 181 0, .ref 369, .none, .none, .none, .none, .int 669 0, .int 147 0, .str "/claim/cut.py" 670] }
def W0 : Obj := { cls := .type "frame", slots := #[some (.ref 370), some (.ref 3), some (.ref 367), none, some (.str "drawhouse.rows" 621), none, some (.ref 0)] }
def U7 : Obj := tu [.str "self" 679, .str "name" 680, .str "terms" 681]
def WD : Obj := pf (Mine.sb 37 0) "__init__" "Let.__init__"
def Rc : Obj := tu [.str "self" 688]
def Nu : Obj := pf (Mine.sb 37 1) "binds" "Let.binds"
def Qd : Obj := tu [.str "self" 695]
def Pn : Obj := pf (Mine.sb 37 2) "said" "Let.said"
def Nr : Obj := tu [.str "name" 699, .str "terms" 700]
def Nt : Obj := { cls := .type "super", data := .fields #[.ref 395, .ref 395, .ref 395] }
def Ng : Obj := { cls := .type "builtin_function_or_method", data := .fields #[.builtin "object.__init_subclass__", .ref 395] }
def YT : BT := bD (t2 P) ((3, { cls := .type "dict", data := .dict (List.toArray (n2 P (n1 P (n3 P ([]))))) 43 }) :: (12, { cls := .none, data := .fields #[.int 2 0, .int 0 0, .ref 20, .int 4 0, .int 0 0, .ref 33, .int 6 0, .int 0 0, .ref 45, .int 8 0, .int 0 0, .ref 57, .int 13 0, .int 0 0, .ref 76, .int 18 0, .int 0 0, .ref 95, .int 23 0, .int 0 0, .ref 114, .int 28 0, .int 0 0, .ref 133, .int 33 0, .int 0 0, .ref 152, .int 38 0, .int 0 0, .ref 171, .int 43 0, .int 0 0, .ref 190, .int 48 0, .int 0 0, .ref 209, .int 53 0, .int 0 0, .ref 228, .int 58 0, .int 0 0, .ref 247, .int 70 0, .int 0 0, .ref 264, .int 76 0, .int 0 0, .ref 269, .int 79 0, .int 0 0, .ref 276, .int 86 0, .int 0 0, .ref 281, .int 92 0, .int 0 0, .ref 288, .int 96 0, .int 0 0, .ref 295, .int 102 0, .int 0 0, .ref 302, .int 108 0, .int 0 0, .ref 309, .int 120 0, .int 0 0, .ref 316, .int 127 0, .int 0 0, .ref 323, .int 134 0, .int 0 0, .ref 328, .int 137 0, .int 0 0, .ref 335, .int 147 0, .int 0 0, .ref 370] }) :: (24, Mine.k24) :: (223, o28) :: (224, o16) :: (225, PX P) :: (226, eT) :: (227, PN) :: (228, V0) :: (229, Qj) :: (230, eT) :: (231, eF) :: [])
def YS : BT := bD (YT P) ((232, W7) :: (233, eT) :: (234, Qe) :: (235, Mine.k235) :: (236, Mine.k236) :: (237, Uk) :: (238, Mine.k238 P) :: (239, Mine.k239) :: (240, Qc) :: (241, P0) :: (242, o28) :: (243, o16) :: [])
def Yb : BT := bD (YS P) ((244, S6 P) :: (245, eT) :: (246, Uu) :: (247, Ve) :: (248, Vs) :: (249, eT) :: (250, eF) :: (251, PL) :: (252, eT) :: (253, Uh) :: (254, Mine.k254) :: (255, Mine.k255) :: [])
def XS : BT := bD (Yb P) ((256, Tq) :: (257, Mine.k257 P) :: (258, Mine.k258) :: (259, Xd) :: (260, Sh) :: (261, eT) :: (262, eF) :: (263, Vq) :: (264, Mine.k264) :: (265, Mine.k265) :: (266, eT) :: (267, eF) :: [])
def X4 : BT := bD (XS P) ((268, Qy) :: (269, Mine.k269) :: (270, Mine.k270) :: (271, eT) :: (272, eF) :: (273, Sy) :: (274, eT) :: (275, Wt) :: (276, Mine.k276) :: (277, Mine.k277) :: (278, eT) :: (279, eF) :: [])
def XD : BT := bD (X4 P) ((280, Px) :: (281, Mine.k281) :: (282, Mine.k282) :: (283, eT) :: (284, eF) :: (285, Rm) :: (286, eT) :: (287, RJ) :: (288, Mine.k288) :: (289, Mine.k289) :: (290, eT) :: (291, eF) :: [])
def Xr : BT := bD (XD P) ((292, Qa) :: (293, eT) :: (294, Uy) :: (295, Mine.k295) :: (296, Mine.k296) :: (297, eT) :: (298, eF) :: (299, WW) :: (300, eT) :: (301, VG) :: (302, Mine.k302) :: (303, Mine.k303) :: [])
def YC : BT := bD (Xr P) ((304, eT) :: (305, eF) :: (306, W2) :: (307, eT) :: (308, Ri) :: (309, Mine.k309) :: (310, Mine.k310) :: (311, eT) :: (312, eF) :: (313, SJ) :: (314, eT) :: (315, QC) :: [])
def Xo : BT := bD (YC P) ((316, Mine.k316) :: (317, Mine.k317) :: (318, eT) :: (319, eF) :: (320, Wg) :: (321, eT) :: (322, NQ) :: (323, Mine.k323) :: (324, Mine.k324) :: (325, eT) :: (326, eF) :: (327, Ny) :: [])
def XR : BT := bD (Xo P) ((328, Mine.k328) :: (329, Mine.k329) :: (330, eT) :: (331, o16) :: (332, Wm P) :: (333, eT) :: (334, Q3) :: (335, Nm) :: (336, PQ) :: (337, eT) :: (338, eF) :: (339, NK) :: [])
def Pu : BT := bD (XR P) ((340, eT) :: (341, TV) :: (342, Mine.k342) :: (343, Mine.k343) :: (344, eT) :: (345, eF) :: (346, O6) :: (347, eT) :: (348, Py) :: (349, Mine.k349) :: (350, Mine.k350) :: (351, eT) :: [])
def Uw : BT := bD (Pu P) ((352, eF) :: (353, Wi) :: (354, eT) :: (355, Sv) :: (356, Mine.k356) :: (357, Mine.k357) :: (358, eT) :: (359, Mine.k359 P) :: (360, { cls := .type "type", data := .cls { name := Str.ofString "Row", bases := [.type "object"], mro := [.ref 360, .type "object"], ns := 359, qualname := Str.ofString "Row", subclasses := [.ref 395] }, slots := #[none, none, some (.str "Row" 623), some (.str "Row" 631), some (.builtin "object.__new__"), some (.bool true)] }) :: (361, Mine.k361) :: (362, Mine.k362) :: (363, Rx) :: [])
def Pj : BT := bD (Uw P) ((364, VH) :: (365, sV) :: (366, o16) :: (367, Um P) :: (368, eT) :: (369, Nx) :: (370, Nz) :: (371, W0) :: (372, eT) :: (373, eF) :: (374, U7) :: (375, eT) :: [])
def Vx : BT := bD (Pj P) ((376, WD) :: (377, Mine.k377) :: (378, Mine.k378) :: (379, eT) :: (380, eF) :: (381, Rc) :: (382, eT) :: (383, Nu) :: (384, Mine.k384) :: (385, Mine.k385) :: (386, eT) :: (387, eF) :: [])
def t3 : BT := bD (Vx P) ((388, Qd) :: (389, eT) :: (390, Pn) :: (391, Mine.k391) :: (392, Mine.k392) :: (393, Nr) :: (394, Mine.k394 P) :: (395, Mine.k395) :: (396, Nt) :: (397, Ng) :: [])
def L2 (w : World) (os : OsState) : Option (Flow × SharedT × Code × Pos) := segRunT treeTable pw_drawhouse_k22_no_rows w 11 (some (Value.ref 6)) 1 1495 ⟨t2 w.params, nat_lit 223, { }, Array.mk [], { }, nat_lit 464, os⟩ (piecesOf (sl 13 25) env cE { line := 48, col := 0, endLine := 52, endCol := 30 } fr)
def R2 (w : World) (os : OsState) : Option (Flow × SharedT × Code × Pos) := some (.next, ⟨t3 w.params, nat_lit 398, { }, Array.mk [], { }, nat_lit 705, os⟩, cE, { line := 147, col := 0, endLine := 157, endCol := 66 })
theorem rL2 : L2 = L2 := rfl
name_quick L2 for Hd.L2 by Hd.rL2
theorem rR2 : R2 = R2 := rfl
name_quick R2 for Hd.R2 by Hd.rR2
theorem q2 : PySem.W.Fast.L2 = PySem.W.Fast.R2 := by kernel_rfl
theorem e2 : L2 = R2 := PySem.W.Fast.L2_eq.trans (q2.trans PySem.W.Fast.R2_eq.symm)
def n4 (P : Params) (r : List DictEntry) : List DictEntry := en P "Deed" 745 (.ref 428) :: en P "Draw" 793 (.ref 468) :: en P "Late" 841 (.ref 508) :: en P "Take" 891 (.ref 548) :: r
def o400 : Obj := { cls := .type "dict", data := .dict #[en P "__module__" 712 (.str "drawhouse.rows" 621), en P "__qualname__" 714 (.str "Deed" 713), en P "__firstlineno__" 716 (.int 158 715), en P "__init__" 725 (.ref 411), en P "binds" 732 (.ref 418), en P "said" 739 (.ref 425), en P "__static_attributes__" 742 (.ref 426)] 7 }
def UT : Obj := { cls := .none, data := .fields #[.int 160 0, .int 4 0, .ref 410, .int 164 0, .int 4 0, .ref 417, .int 167 0, .int 4 0, .ref 424] }
def W8 : Obj := { cls := .type "code", data := .fields #[.str "Deed" 707, .str "Deed" 708, .str "/claim/cut.py" 709, .int 158 0, .int 0 0, .int 0 0, .int 0 0, .int 0 0, .ref 401, .bool false, .int 181 0, .ref 402, .none, .none, .none, .none, .int 710 0, .int 158 0, .str "/claim/cut.py" 711] }
def WL : Obj := { cls := .type "frame", slots := #[some (.ref 403), some (.ref 3), some (.ref 400), none, some (.str "drawhouse.rows" 621), none, some (.ref 0)] }
def Tw : Obj := tu [.str "self" 720, .str "name" 721, .str "terms" 722]
def Ox : Obj := pf (Mine.sb 38 0) "__init__" "Deed.__init__"
def Wq : Obj := tu [.str "self" 729]
def Q5 : Obj := pf (Mine.sb 38 1) "binds" "Deed.binds"
def S5 : Obj := tu [.str "self" 736]
def U4 : Obj := pf (Mine.sb 38 2) "said" "Deed.said"
def Nq : Obj := tu [.str "name" 740, .str "terms" 741]
def WP : Obj := { cls := .type "super", data := .fields #[.ref 428, .ref 428, .ref 428] }
def T8 : Obj := { cls := .type "builtin_function_or_method", data := .fields #[.builtin "object.__init_subclass__", .ref 428] }
def Oo : Obj := { cls := .type "dict", data := .dict #[en P "__module__" 753 (.str "drawhouse.rows" 621), en P "__qualname__" 755 (.str "Draw" 754), en P "__firstlineno__" 757 (.int 169 756), en P "__init__" 766 (.ref 444), en P "binds" 773 (.ref 451), en P "asked" 780 (.ref 458), en P "said" 787 (.ref 465), en P "__static_attributes__" 790 (.ref 466)] 8 }
def Vn : Obj := { cls := .none, data := .fields #[.int 171 0, .int 4 0, .ref 443, .int 175 0, .int 4 0, .ref 450, .int 178 0, .int 4 0, .ref 457, .int 181 0, .int 4 0, .ref 464] }
def Rr : Obj := { cls := .type "code", data := .fields #[.str "Draw" 748, .str "Draw" 749, .str "/claim/cut.py" 750, .int 169 0, .int 0 0, .int 0 0, .int 0 0, .int 0 0, .ref 434, .bool false, .int 181 0, .ref 435, .none, .none, .none, .none, .int 751 0, .int 169 0, .str "/claim/cut.py" 752] }
def RB : Obj := { cls := .type "frame", slots := #[some (.ref 436), some (.ref 3), some (.ref 433), none, some (.str "drawhouse.rows" 621), none, some (.ref 0)] }
def WQ : Obj := tu [.str "self" 761, .str "address" 762, .str "name" 763]
def W4 : Obj := pf (Mine.sb 39 0) "__init__" "Draw.__init__"
def VB : Obj := tu [.str "self" 770]
def Oe : Obj := pf (Mine.sb 39 1) "binds" "Draw.binds"
def WM : Obj := tu [.str "self" 777]
def Qv : Obj := pf (Mine.sb 39 2) "asked" "Draw.asked"
def Sd : Obj := tu [.str "self" 784]
def Vw : Obj := pf (Mine.sb 39 3) "said" "Draw.said"
def V8 : Obj := tu [.str "address" 788, .str "name" 789]
def RZ : Obj := { cls := .type "super", data := .fields #[.ref 468, .ref 468, .ref 468] }
def O5 : Obj := { cls := .type "builtin_function_or_method", data := .fields #[.builtin "object.__init_subclass__", .ref 468] }
def W5 : Obj := { cls := .type "dict", data := .dict #[en P "__module__" 801 (.str "drawhouse.rows" 621), en P "__qualname__" 803 (.str "Late" 802), en P "__firstlineno__" 805 (.int 183 804), en P "__init__" 814 (.ref 484), en P "binds" 821 (.ref 491), en P "asked" 828 (.ref 498), en P "said" 835 (.ref 505), en P "__static_attributes__" 838 (.ref 506)] 8 }
def VD : Obj := { cls := .none, data := .fields #[.int 185 0, .int 4 0, .ref 483, .int 189 0, .int 4 0, .ref 490, .int 192 0, .int 4 0, .ref 497, .int 195 0, .int 4 0, .ref 504] }
def Pq : Obj := { cls := .type "code", data := .fields #[.str "Late" 796, .str "Late" 797, .str "/claim/cut.py" 798, .int 183 0, .int 0 0, .int 0 0, .int 0 0, .int 0 0, .ref 474, .bool false, .int 181 0, .ref 475, .none, .none, .none, .none, .int 799 0, .int 183 0, .str "/claim/cut.py" 800] }
def NB : Obj := { cls := .type "frame", slots := #[some (.ref 476), some (.ref 3), some (.ref 473), none, some (.str "drawhouse.rows" 621), none, some (.ref 0)] }
def S8 : Obj := tu [.str "self" 809, .str "address" 810, .str "name" 811]
def U8 : Obj := pf (Mine.sb 40 0) "__init__" "Late.__init__"
def S7 : Obj := tu [.str "self" 818]
def Pk : Obj := pf (Mine.sb 40 1) "binds" "Late.binds"
def WX : Obj := tu [.str "self" 825]
def VN : Obj := pf (Mine.sb 40 2) "asked" "Late.asked"
def Rg : Obj := tu [.str "self" 832]
def We : Obj := pf (Mine.sb 40 3) "said" "Late.said"
def U0 : Obj := tu [.str "address" 836, .str "name" 837]
def Xa : Obj := { cls := .type "super", data := .fields #[.ref 508, .ref 508, .ref 508] }
def Qw : Obj := { cls := .type "builtin_function_or_method", data := .fields #[.builtin "object.__init_subclass__", .ref 508] }
def U5 : Obj := { cls := .type "dict", data := .dict #[en P "__module__" 849 (.str "drawhouse.rows" 621), en P "__qualname__" 851 (.str "Take" 850), en P "__firstlineno__" 853 (.int 197 852), en P "__init__" 863 (.ref 524), en P "binds" 870 (.ref 531), en P "asked" 877 (.ref 538), en P "said" 884 (.ref 545), en P "__static_attributes__" 888 (.ref 546)] 8 }
def O4 : Obj := { cls := .none, data := .fields #[.int 199 0, .int 4 0, .ref 523, .int 204 0, .int 4 0, .ref 530, .int 207 0, .int 4 0, .ref 537, .int 210 0, .int 4 0, .ref 544] }
def Nh : Obj := { cls := .type "code", data := .fields #[.str "Take" 844, .str "Take" 845, .str "/claim/cut.py" 846, .int 197 0, .int 0 0, .int 0 0, .int 0 0, .int 0 0, .ref 514, .bool false, .int 181 0, .ref 515, .none, .none, .none, .none, .int 847 0, .int 197 0, .str "/claim/cut.py" 848] }
def QH : Obj := { cls := .type "frame", slots := #[some (.ref 516), some (.ref 3), some (.ref 513), none, some (.str "drawhouse.rows" 621), none, some (.ref 0)] }
def PK : Obj := tu [.str "self" 857, .str "word" 858, .str "address" 859, .str "name" 860]
def Rn : Obj := pf (Mine.sb 41 0) "__init__" "Take.__init__"
def Tz : Obj := tu [.str "self" 867]
def Tc : Obj := pf (Mine.sb 41 1) "binds" "Take.binds"
def Qf : Obj := tu [.str "self" 874]
def Wh : Obj := pf (Mine.sb 41 2) "asked" "Take.asked"
def QZ : Obj := tu [.str "self" 881]
def Sw : Obj := pf (Mine.sb 41 3) "said" "Take.said"
def VJ : Obj := tu [.str "address" 885, .str "name" 886, .str "word" 887]
def V3 : Obj := { cls := .type "super", data := .fields #[.ref 548, .ref 548, .ref 548] }
def Qs : Obj := { cls := .type "builtin_function_or_method", data := .fields #[.builtin "object.__init_subclass__", .ref 548] }
def Yw : BT := bD (t3 P) ((3, { cls := .type "dict", data := .dict (List.toArray (n2 P (n1 P (n3 P (n4 P ([])))))) 47 }) :: (12, { cls := .none, data := .fields #[.int 2 0, .int 0 0, .ref 20, .int 4 0, .int 0 0, .ref 33, .int 6 0, .int 0 0, .ref 45, .int 8 0, .int 0 0, .ref 57, .int 13 0, .int 0 0, .ref 76, .int 18 0, .int 0 0, .ref 95, .int 23 0, .int 0 0, .ref 114, .int 28 0, .int 0 0, .ref 133, .int 33 0, .int 0 0, .ref 152, .int 38 0, .int 0 0, .ref 171, .int 43 0, .int 0 0, .ref 190, .int 48 0, .int 0 0, .ref 209, .int 53 0, .int 0 0, .ref 228, .int 58 0, .int 0 0, .ref 247, .int 70 0, .int 0 0, .ref 264, .int 76 0, .int 0 0, .ref 269, .int 79 0, .int 0 0, .ref 276, .int 86 0, .int 0 0, .ref 281, .int 92 0, .int 0 0, .ref 288, .int 96 0, .int 0 0, .ref 295, .int 102 0, .int 0 0, .ref 302, .int 108 0, .int 0 0, .ref 309, .int 120 0, .int 0 0, .ref 316, .int 127 0, .int 0 0, .ref 323, .int 134 0, .int 0 0, .ref 328, .int 137 0, .int 0 0, .ref 335, .int 147 0, .int 0 0, .ref 370, .int 158 0, .int 0 0, .ref 403, .int 169 0, .int 0 0, .ref 436, .int 183 0, .int 0 0, .ref 476, .int 197 0, .int 0 0, .ref 516] }) :: (360, { cls := .type "type", data := .cls { name := Str.ofString "Row", bases := [.type "object"], mro := [.ref 360, .type "object"], ns := 359, qualname := Str.ofString "Row", subclasses := [.ref 395, .ref 428, .ref 468, .ref 508, .ref 548] }, slots := #[none, none, some (.str "Row" 623), some (.str "Row" 631), some (.builtin "object.__new__"), some (.bool true)] }) :: (398, sV) :: (399, o16) :: (400, o400 P) :: (401, eT) :: (402, UT) :: (403, W8) :: (404, WL) :: (405, eT) :: (406, eF) :: [])
def Xg : BT := bD (Yw P) ((407, Tw) :: (408, eT) :: (409, Ox) :: (410, Mine.k410) :: (411, Mine.k411) :: (412, eT) :: (413, eF) :: (414, Wq) :: (415, eT) :: (416, Q5) :: (417, Mine.k417) :: (418, Mine.k418) :: [])
def XQ : BT := bD (Xg P) ((419, eT) :: (420, eF) :: (421, S5) :: (422, eT) :: (423, U4) :: (424, Mine.k424) :: (425, Mine.k425) :: (426, Nq) :: (427, Mine.k427 P) :: (428, Mine.k428) :: (429, WP) :: (430, T8) :: [])
def YB : BT := bD (XQ P) ((431, sV) :: (432, o16) :: (433, Oo P) :: (434, eT) :: (435, Vn) :: (436, Rr) :: (437, RB) :: (438, eT) :: (439, eF) :: (440, WQ) :: (441, eT) :: (442, W4) :: [])
def Xh : BT := bD (YB P) ((443, Mine.k443) :: (444, Mine.k444) :: (445, eT) :: (446, eF) :: (447, VB) :: (448, eT) :: (449, Oe) :: (450, Mine.k450) :: (451, Mine.k451) :: (452, eT) :: (453, eF) :: (454, WM) :: [])
def Yt : BT := bD (Xh P) ((455, eT) :: (456, Qv) :: (457, Mine.k457) :: (458, Mine.k458) :: (459, eT) :: (460, eF) :: (461, Sd) :: (462, eT) :: (463, Vw) :: (464, Mine.k464) :: (465, Mine.k465) :: (466, V8) :: [])
def Yu : BT := bD (Yt P) ((467, Mine.k467 P) :: (468, Mine.k468) :: (469, RZ) :: (470, O5) :: (471, sV) :: (472, o16) :: (473, W5 P) :: (474, eT) :: (475, VD) :: (476, Pq) :: (477, NB) :: (478, eT) :: [])
def Yp : BT := bD (Yu P) ((479, eF) :: (480, S8) :: (481, eT) :: (482, U8) :: (483, Mine.k483) :: (484, Mine.k484) :: (485, eT) :: (486, eF) :: (487, S7) :: (488, eT) :: (489, Pk) :: (490, Mine.k490) :: [])
def Xj : BT := bD (Yp P) ((491, Mine.k491) :: (492, eT) :: (493, eF) :: (494, WX) :: (495, eT) :: (496, VN) :: (497, Mine.k497) :: (498, Mine.k498) :: (499, eT) :: (500, eF) :: (501, Rg) :: (502, eT) :: [])
def XX : BT := bD (Xj P) ((503, We) :: (504, Mine.k504) :: (505, Mine.k505) :: (506, U0) :: (507, Mine.k507 P) :: (508, Mine.k508) :: (509, Xa) :: (510, Qw) :: (511, sV) :: (512, o16) :: (513, U5 P) :: (514, eT) :: [])
def UL : BT := bD (XX P) ((515, O4) :: (516, Nh) :: (517, QH) :: (518, eT) :: (519, eF) :: (520, PK) :: (521, eT) :: (522, Rn) :: (523, Mine.k523) :: (524, Mine.k524) :: (525, eT) :: (526, eF) :: [])
def M7 : BT := bD (UL P) ((527, Tz) :: (528, eT) :: (529, Tc) :: (530, Mine.k530) :: (531, Mine.k531) :: (532, eT) :: (533, eF) :: (534, Qf) :: (535, eT) :: (536, Wh) :: (537, Mine.k537) :: (538, Mine.k538) :: [])
def t4 : BT := bD (M7 P) ((539, eT) :: (540, eF) :: (541, QZ) :: (542, eT) :: (543, Sw) :: (544, Mine.k544) :: (545, Mine.k545) :: (546, VJ) :: (547, Mine.k547 P) :: (548, Mine.k548) :: (549, V3) :: (550, Qs) :: [])
def L3 (w : World) (os : OsState) : Option (Flow × SharedT × Code × Pos) := segRunT treeTable pw_drawhouse_k22_no_rows w 11 (some (Value.ref 6)) 1 1332 ⟨t3 w.params, nat_lit 398, { }, Array.mk [], { }, nat_lit 705, os⟩ (piecesOf (sl 38 4) env cE { line := 147, col := 0, endLine := 157, endCol := 66 } fr)
def R3 (w : World) (os : OsState) : Option (Flow × SharedT × Code × Pos) := some (.next, ⟨t4 w.params, nat_lit 551, { }, Array.mk [], { }, nat_lit 892, os⟩, cE, { line := 197, col := 0, endLine := 211, endCol := 81 })
theorem rL3 : L3 = L3 := rfl
name_quick L3 for Hd.L3 by Hd.rL3
theorem rR3 : R3 = R3 := rfl
name_quick R3 for Hd.R3 by Hd.rR3
theorem q3 : PySem.W.Fast.L3 = PySem.W.Fast.R3 := by kernel_rfl
theorem e3 : L3 = R3 := PySem.W.Fast.L3_eq.trans (q3.trans PySem.W.Fast.R3_eq.symm)
def n5 (P : Params) (r : List DictEntry) : List DictEntry := en P "__name__" 165 (.str "law_drawhouse_k22_no_rows" 987) :: en P "__doc__" 166 .none :: en P "__package__" 167 .none :: en P "__loader__" 168 (.builtin "__main__.__loader__#opaque") :: en P "__spec__" 169 .none :: en P "__annotations__" 170 (.ref 6) :: en P "__builtins__" 171 (.ref 4) :: en P "__file__" 173 (.str "/claim/cut.py" 172) :: en P "__cached__" 174 .none :: en P "HouseError" 206 (.ref 24) :: en P "NoExpr" 222 (.ref 37) :: en P "TooWide" 238 (.ref 49) :: en P "NoText" 263 (.ref 68) :: en P "TooMany" 288 (.ref 87) :: en P "Twice" 313 (.ref 106) :: r
def n6 (P : Params) (r : List DictEntry) : List DictEntry := en P "Need" 923 (.ref 574) :: en P "names_expr" 932 (.ref 583) :: en P "names_address" 939 (.ref 590) :: en P "names_word" 946 (.ref 597) :: en P "terms_from" 954 (.ref 604) :: en P "deed_of" 962 (.ref 611) :: en P "row_of" 970 (.ref 618) :: en P "row_at" 979 (.ref 625) :: en P "read_row" 986 (.ref 632) :: en P "_law_cell" 996 (.ref 639) :: en P "_law_sub" 1004 (.ref 646) :: en P "_law_number" 1012 (.ref 653) :: en P "_law_pick" 1024 (.ref 660) :: en P "_law_name" 1030 (.ref 665) :: en P "_law_label" 1038 (.ref 672) :: en P "_law_address" 1044 (.ref 677) :: en P "_law_term" 1050 (.ref 682) :: en P "_law_terms" 1056 (.ref 687) :: en P "_law_word" 1066 (.ref 694) :: en P "_law_text" 1075 (.ref 701) :: en P "_law_row" 1081 (.ref 706) :: en P "_law_said" 1093 (.ref 713) :: en P "_law_whole" 1100 (.ref 720) :: en P "_law_term_is" 1108 (.ref 727) :: en P "_law_terms_are" 1114 (.ref 732) :: en P "_law_is" 1120 (.ref 737) :: en P "_law_says" 1132 (.ref 744) :: en P "_law_is_name" 1140 (.ref 751) :: en P "_law_is_address" 1146 (.ref 756) :: en P "_law_read_word" 1152 (.ref 761) :: en P "_law_read" 1162 (.ref 768) :: en P "_law_read_told" 1168 (.ref 773) :: en P "_law_read_row" 1176 (.ref 780) :: en P "_law_worded" 1188 (.ref 787) :: en P "_law_signed" 1200 (.ref 794) :: en P "_law_other" 1208 (.ref 801) :: en P "_law_refused" 1216 (.ref 808) :: en P "_law_taken" 1224 (.ref 815) :: en P "law" 1237 (.ref 822) :: r
def o3 : Obj := { cls := .type "dict", data := .dict (List.toArray (n5 P (n1 P (n3 P (n4 P (n6 P ([]))))))) 86 }
def o12 : Obj := { cls := .none, data := .fields #[.int 2 0, .int 0 0, .ref 20, .int 4 0, .int 0 0, .ref 33, .int 6 0, .int 0 0, .ref 45, .int 8 0, .int 0 0, .ref 57, .int 13 0, .int 0 0, .ref 76, .int 18 0, .int 0 0, .ref 95, .int 23 0, .int 0 0, .ref 114, .int 28 0, .int 0 0, .ref 133, .int 33 0, .int 0 0, .ref 152, .int 38 0, .int 0 0, .ref 171, .int 43 0, .int 0 0, .ref 190, .int 48 0, .int 0 0, .ref 209, .int 53 0, .int 0 0, .ref 228, .int 58 0, .int 0 0, .ref 247, .int 70 0, .int 0 0, .ref 264, .int 76 0, .int 0 0, .ref 269, .int 79 0, .int 0 0, .ref 276, .int 86 0, .int 0 0, .ref 281, .int 92 0, .int 0 0, .ref 288, .int 96 0, .int 0 0, .ref 295, .int 102 0, .int 0 0, .ref 302, .int 108 0, .int 0 0, .ref 309, .int 120 0, .int 0 0, .ref 316, .int 127 0, .int 0 0, .ref 323, .int 134 0, .int 0 0, .ref 328, .int 137 0, .int 0 0, .ref 335, .int 147 0, .int 0 0, .ref 370, .int 158 0, .int 0 0, .ref 403, .int 169 0, .int 0 0, .ref 436, .int 183 0, .int 0 0, .ref 476, .int 197 0, .int 0 0, .ref 516, .int 212 0, .int 0 0, .ref 556, .int 220 0, .int 0 0, .ref 582, .int 222 0, .int 0 0, .ref 589, .int 224 0, .int 0 0, .ref 596, .int 228 0, .int 0 0, .ref 603, .int 230 0, .int 0 0, .ref 610, .int 234 0, .int 0 0, .ref 617, .int 249 0, .int 0 0, .ref 624, .int 257 0, .int 0 0, .ref 631, .int 262 0, .int 0 0, .ref 638, .int 266 0, .int 0 0, .ref 645, .int 270 0, .int 0 0, .ref 652, .int 274 0, .int 0 0, .ref 659, .int 283 0, .int 0 0, .ref 664, .int 286 0, .int 0 0, .ref 671, .int 291 0, .int 0 0, .ref 676, .int 293 0, .int 0 0, .ref 681, .int 301 0, .int 0 0, .ref 686, .int 303 0, .int 0 0, .ref 693, .int 308 0, .int 0 0, .ref 700, .int 313 0, .int 0 0, .ref 705, .int 321 0, .int 0 0, .ref 712, .int 330 0, .int 0 0, .ref 719, .int 332 0, .int 0 0, .ref 726, .int 338 0, .int 0 0, .ref 731, .int 342 0, .int 0 0, .ref 736, .int 356 0, .int 0 0, .ref 743, .int 365 0, .int 0 0, .ref 750, .int 370 0, .int 0 0, .ref 755, .int 373 0, .int 0 0, .ref 760, .int 387 0, .int 0 0, .ref 767, .int 399 0, .int 0 0, .ref 772, .int 406 0, .int 0 0, .ref 779, .int 419 0, .int 0 0, .ref 786, .int 442 0, .int 0 0, .ref 793, .int 455 0, .int 0 0, .ref 800, .int 460 0, .int 0 0, .ref 807, .int 468 0, .int 0 0, .ref 814, .int 473 0, .int 0 0, .ref 821] }
def O8 : Obj := { cls := .type "dict", data := .dict #[en P "__module__" 899 (.str "drawhouse.rows" 621), en P "__qualname__" 901 (.str "Need" 900), en P "__firstlineno__" 903 (.int 212 902), en P "__init__" 911 (.ref 564), en P "said" 918 (.ref 571), en P "__static_attributes__" 920 (.ref 572)] 6 }
def o555 : Obj := { cls := .none, data := .fields #[.int 214 0, .int 4 0, .ref 563, .int 217 0, .int 4 0, .ref 570] }
def Qt : Obj := { cls := .type "code", data := .fields #[.str "Need" 894, .str "Need" 895, .str "/claim/cut.py" 896, .int 212 0, .int 0 0, .int 0 0, .int 0 0, .int 0 0, .ref 554, .bool false, .int 181 0, .ref 555, .none, .none, .none, .none, .int 897 0, .int 212 0, .str "/claim/cut.py" 898] }
def Ub : Obj := { cls := .type "frame", slots := #[some (.ref 556), some (.ref 3), some (.ref 553), none, some (.str "drawhouse.rows" 621), none, some (.ref 0)] }
def W6 : Obj := tu [.str "self" 907, .str "terms" 908]
def Uj : Obj := pf (Mine.sb 42 0) "__init__" "Need.__init__"
def Rv : Obj := tu [.str "self" 915]
def Vl : Obj := pf (Mine.sb 42 1) "said" "Need.said"
def Ur : Obj := tu [.str "terms" 919]
def Pg : Obj := { cls := .type "super", data := .fields #[.ref 574, .ref 574, .ref 574] }
def Vg : Obj := { cls := .type "builtin_function_or_method", data := .fields #[.builtin "object.__init_subclass__", .ref 574] }
def O7 : Obj := tu [.str "words" 929]
def Wx : Obj := pf (Mine.top 44) "names_expr" "names_expr"
def Od : Obj := tu [.str "words" 936]
def Q6 : Obj := pf (Mine.top 45) "names_address" "names_address"
def QR : Obj := tu [.str "words" 943]
def NT : Obj := pf (Mine.top 46) "names_word" "names_word"
def o600 : Obj := tu [.str "words" 950, .str "at" 951]
def WY : Obj := pf (Mine.top 47) "terms_from" "terms_from"
def Tj : Obj := tu [.str "name" 958, .str "terms" 959]
def S9 : Obj := pf (Mine.top 48) "deed_of" "deed_of"
def RX : Obj := tu [.str "words" 966, .str "first" 967]
def Wc : Obj := pf (Mine.top 49) "row_of" "row_of"
def V6 : Obj := tu [.str "text" 974, .str "at" 975, .str "row" 976]
def Nj : Obj := pf (Mine.top 50) "row_at" "row_at"
def VR : Obj := tu [.str "text" 983]
def Vm : Obj := pf (Mine.top 51) "read_row" "read_row"
def QK : Obj := tu [.str "_law_script" 992, .str "_law_k" 993]
def Su : Obj := pf (Mine.top 53) "_law_cell" "_law_cell"
def T9 : Obj := tu [.str "_law_cell_here" 1000, .str "_law_j" 1001]
def OD : Obj := pf (Mine.top 54) "_law_sub" "_law_sub"
def Pb : Obj := tu [.str "_law_cell_here" 1008, .str "_law_far" 1009]
def Xe : Obj := pf (Mine.top 55) "_law_number" "_law_number"
def Wk : Obj := tu [.str "_law_cell_here" 1016, .str "_law_k" 1017, .str "_law_many" 1018, .str "_law_great" 1019, .str "_law_by" 1020, .str "_law_one" 1021]
def Vy : Obj := pf (Mine.top 56) "_law_pick" "_law_pick"
def Oz : Obj := pf (Mine.top 57) "_law_name" "_law_name"
def Ov : Obj := tu [.str "_law_cell_here" 1034, .str "_law_some" 1035]
def Sx : Obj := pf (Mine.top 58) "_law_label" "_law_label"
def Wf : Obj := pf (Mine.top 59) "_law_address" "_law_address"
def Vk : Obj := pf (Mine.top 60) "_law_term" "_law_term"
def Q9 : Obj := pf (Mine.top 61) "_law_terms" "_law_terms"
def WR : Obj := tu [.str "_law_term_here" 1060, .str "_law_sign" 1061, .str "_law_sort" 1062, .str "_law_thing" 1063]
def Ph : Obj := pf (Mine.top 62) "_law_word" "_law_word"
def VP : Obj := tu [.str "_law_terms_here" 1070, .str "_law_text_here" 1071, .str "_law_term_here" 1072]
def Og : Obj := pf (Mine.top 63) "_law_text" "_law_text"
def Th : Obj := pf (Mine.top 64) "_law_row" "_law_row"
def O9 : Obj := tu [.str "_law_row_here" 1085, .str "_law_sort" 1086, .str "_law_name_here" 1087, .str "_law_address_here" 1088, .str "_law_word_here" 1089, .str "_law_terms_here" 1090]
def V1 : Obj := pf (Mine.top 65) "_law_said" "_law_said"
def Vr : Obj := tu [.str "_law_found" 1097]
def Rh : Obj := pf (Mine.top 66) "_law_whole" "_law_whole"
def Ou : Obj := tu [.str "_law_found" 1104, .str "_law_due" 1105]
def TY : Obj := pf (Mine.top 67) "_law_term_is" "_law_term_is"
def T4 : Obj := pf (Mine.top 68) "_law_terms_are" "_law_terms_are"
def M6 : Obj := pf (Mine.top 69) "_law_is" "_law_is"
def Oa : Obj := tu [.str "_law_found" 1124, .str "_law_row_here" 1125, .str "_law_due" 1126, .str "_law_binds" 1127, .str "_law_asked" 1128, .str "_law_said_here" 1129]
def Vz : Obj := pf (Mine.top 70) "_law_says" "_law_says"
def Vp : Obj := tu [.str "_law_text_here" 1136, .str "_law_sign" 1137]
def RW : Obj := pf (Mine.top 71) "_law_is_name" "_law_is_name"
def M5 : Obj := pf (Mine.top 72) "_law_is_address" "_law_is_address"
def T7 : Obj := pf (Mine.top 73) "_law_read_word" "_law_read_word"
def Rk : Obj := tu [.str "_law_words" 1156, .str "_law_terms_here" 1157, .str "_law_k" 1158, .str "_law_term_here" 1159]
def SM : Obj := pf (Mine.top 74) "_law_read" "_law_read"
def T3 : Obj := pf (Mine.top 75) "_law_read_told" "_law_read_told"
def Wb : Obj := tu [.str "_law_text_here" 1172, .str "_law_words" 1173]
def Oi : Obj := pf (Mine.top 76) "_law_read_row" "_law_read_row"
def Nk : Obj := tu [.str "_law_words" 1180, .str "_law_cell_here" 1181, .str "_law_at" 1182, .str "_law_way" 1183, .str "_law_some" 1184, .str "_law_word_here" 1185]
def Wz : Obj := pf (Mine.top 77) "_law_worded" "_law_worded"
def Vo : Obj := tu [.str "_law_text_here" 1192, .str "_law_cell_here" 1193, .str "_law_signs" 1194, .str "_law_at" 1195, .str "_law_sign" 1196, .str "_law_way" 1197]
def Wy : Obj := pf (Mine.top 78) "_law_signed" "_law_signed"
def M3 : Obj := tu [.str "_law_e" 1204, .str "_law_some" 1205]
def Ql : Obj := pf (Mine.top 79) "_law_other" "_law_other"
def O2 : Obj := tu [.str "_law_thing" 1212, .str "_law_e" 1213]
def RQ : Obj := pf (Mine.top 80) "_law_refused" "_law_refused"
def N5 : Obj := tu [.str "_law_text_here" 1220, .str "_law_due" 1221]
def Uq : Obj := pf (Mine.top 81) "_law_taken" "_law_taken"
def Qz : Obj := tu [.str "_law_script" 1228, .str "_law_k" 1229, .str "_law_cell_here" 1230, .str "_law_text_here" 1231, .str "_law_worded_here" 1232, .str "_law_one" 1233, .str "_law_odd" 1234]
def Rj : Obj := pf (Mine.top 82) "law" "law"
def YK : BT := bD (t4 P) ((3, o3 P) :: (12, o12) :: (360, Mine.k360) :: (551, sV) :: (552, o16) :: (553, O8 P) :: (554, eT) :: (555, o555) :: (556, Qt) :: (557, Ub) :: (558, eT) :: (559, eF) :: [])
def YQ : BT := bD (YK P) ((560, W6) :: (561, eT) :: (562, Uj) :: (563, Mine.k563) :: (564, Mine.k564) :: (565, eT) :: (566, eF) :: (567, Rv) :: (568, eT) :: (569, Vl) :: (570, Mine.k570) :: (571, Mine.k571) :: [])
def Yl : BT := bD (YQ P) ((572, Ur) :: (573, Mine.k573 P) :: (574, Mine.k574) :: (575, Pg) :: (576, Vg) :: (577, eT) :: (578, eF) :: (579, O7) :: (580, eT) :: (581, Wx) :: (582, Mine.k582) :: (583, Mine.k583) :: [])
def Yy : BT := bD (Yl P) ((584, eT) :: (585, eF) :: (586, Od) :: (587, eT) :: (588, Q6) :: (589, Mine.k589) :: (590, Mine.k590) :: (591, eT) :: (592, eF) :: (593, QR) :: (594, eT) :: (595, NT) :: [])
def Yq : BT := bD (Yy P) ((596, Mine.k596) :: (597, Mine.k597) :: (598, eT) :: (599, eF) :: (600, o600) :: (601, eT) :: (602, WY) :: (603, Mine.k603) :: (604, Mine.k604) :: (605, eT) :: (606, eF) :: (607, Tj) :: [])
def Xq : BT := bD (Yq P) ((608, eT) :: (609, S9) :: (610, Mine.k610) :: (611, Mine.k611) :: (612, eT) :: (613, eF) :: (614, RX) :: (615, eT) :: (616, Wc) :: (617, Mine.k617) :: (618, Mine.k618) :: (619, eT) :: [])
def Xk : BT := bD (Xq P) ((620, eF) :: (621, V6) :: (622, eT) :: (623, Nj) :: (624, Mine.k624) :: (625, Mine.k625) :: (626, eT) :: (627, eF) :: (628, VR) :: (629, eT) :: (630, Vm) :: (631, Mine.k631) :: [])
def XM : BT := bD (Xk P) ((632, Mine.k632) :: (633, eT) :: (634, eF) :: (635, QK) :: (636, eT) :: (637, Su) :: (638, Mine.k638) :: (639, Mine.k639) :: (640, eT) :: (641, eF) :: (642, T9) :: (643, eT) :: [])
def Yk : BT := bD (XM P) ((644, OD) :: (645, Mine.k645) :: (646, Mine.k646) :: (647, eT) :: (648, eF) :: (649, Pb) :: (650, eT) :: (651, Xe) :: (652, Mine.k652) :: (653, Mine.k653) :: (654, eT) :: (655, eF) :: [])
def Xv : BT := bD (Yk P) ((656, Wk) :: (657, eT) :: (658, Vy) :: (659, Mine.k659) :: (660, Mine.k660) :: (661, eT) :: (662, eF) :: (663, Oz) :: (664, Mine.k664) :: (665, Mine.k665) :: (666, eT) :: (667, eF) :: [])
def RC : BT := bD (Xv P) ((668, Ov) :: (669, eT) :: (670, Sx) :: (671, Mine.k671) :: (672, Mine.k672) :: (673, eT) :: (674, eF) :: (675, Wf) :: (676, Mine.k676) :: (677, Mine.k677) :: (678, eT) :: (679, eF) :: [])
def QD : BT := bD (RC P) ((680, Vk) :: (681, Mine.k681) :: (682, Mine.k682) :: (683, eT) :: (684, eF) :: (685, Q9) :: (686, Mine.k686) :: (687, Mine.k687) :: (688, eT) :: (689, eF) :: (690, WR) :: (691, eT) :: [])
def V7 : BT := bD (QD P) ((692, Ph) :: (693, Mine.k693) :: (694, Mine.k694) :: (695, eT) :: (696, eF) :: (697, VP) :: (698, eT) :: (699, Og) :: (700, Mine.k700) :: (701, Mine.k701) :: (702, eT) :: (703, eF) :: [])
def QX : BT := bD (V7 P) ((704, Th) :: (705, Mine.k705) :: (706, Mine.k706) :: (707, eT) :: (708, eF) :: (709, O9) :: (710, eT) :: (711, V1) :: (712, Mine.k712) :: (713, Mine.k713) :: (714, eT) :: (715, eF) :: [])
def OJ : BT := bD (QX P) ((716, Vr) :: (717, eT) :: (718, Rh) :: (719, Mine.k719) :: (720, Mine.k720) :: (721, eT) :: (722, eF) :: (723, Ou) :: (724, eT) :: (725, TY) :: (726, Mine.k726) :: (727, Mine.k727) :: [])
def Ux : BT := bD (OJ P) ((728, eT) :: (729, eF) :: (730, T4) :: (731, Mine.k731) :: (732, Mine.k732) :: (733, eT) :: (734, eF) :: (735, M6) :: (736, Mine.k736) :: (737, Mine.k737) :: (738, eT) :: (739, eF) :: [])
def WN : BT := bD (Ux P) ((740, Oa) :: (741, eT) :: (742, Vz) :: (743, Mine.k743) :: (744, Mine.k744) :: (745, eT) :: (746, eF) :: (747, Vp) :: (748, eT) :: (749, RW) :: (750, Mine.k750) :: (751, Mine.k751) :: [])
def UW : BT := bD (WN P) ((752, eT) :: (753, eF) :: (754, M5) :: (755, Mine.k755) :: (756, Mine.k756) :: (757, eT) :: (758, eF) :: (759, T7) :: (760, Mine.k760) :: (761, Mine.k761) :: (762, eT) :: (763, eF) :: [])
def VV : BT := bD (UW P) ((764, Rk) :: (765, eT) :: (766, SM) :: (767, Mine.k767) :: (768, Mine.k768) :: (769, eT) :: (770, eF) :: (771, T3) :: (772, Mine.k772) :: (773, Mine.k773) :: (774, eT) :: (775, eF) :: [])
def MP : BT := bD (VV P) ((776, Wb) :: (777, eT) :: (778, Oi) :: (779, Mine.k779) :: (780, Mine.k780) :: (781, eT) :: (782, eF) :: (783, Nk) :: (784, eT) :: (785, Wz) :: (786, Mine.k786) :: (787, Mine.k787) :: [])
def Ud : BT := bD (MP P) ((788, eT) :: (789, eF) :: (790, Vo) :: (791, eT) :: (792, Wy) :: (793, Mine.k793) :: (794, Mine.k794) :: (795, eT) :: (796, eF) :: (797, M3) :: (798, eT) :: (799, Ql) :: [])
def Ug : BT := bD (Ud P) ((800, Mine.k800) :: (801, Mine.k801) :: (802, eT) :: (803, eF) :: (804, O2) :: (805, eT) :: (806, RQ) :: (807, Mine.k807) :: (808, Mine.k808) :: (809, eT) :: (810, eF) :: (811, N5) :: [])
def t5 : BT := bD (Ug P) ((812, eT) :: (813, Uq) :: (814, Mine.k814) :: (815, Mine.k815) :: (816, eT) :: (817, eF) :: (818, Qz) :: (819, eT) :: (820, Rj) :: (821, Mine.k821) :: (822, Mine.k822) :: [])
def L4 (w : World) (os : OsState) : Option (Flow × SharedT × Code × Pos) := segRunT treeTable pw_drawhouse_k22_no_rows w 11 (some (Value.ref 6)) 1 1421 ⟨t4 w.params, nat_lit 551, { }, Array.mk [], { }, nat_lit 892, os⟩ (piecesOf (sl 42 41) env cE { line := 197, col := 0, endLine := 211, endCol := 81 } fr)
def R4 (w : World) (os : OsState) : Option (Flow × SharedT × Code × Pos) := some (.next, ⟨t5 w.params, nat_lit 823, { }, Array.mk [], { }, nat_lit 1238, os⟩, cE, { line := 473, col := 0, endLine := 487, endCol := 113 })
theorem rL4 : L4 = L4 := rfl
name_quick L4 for Hd.L4 by Hd.rL4
theorem rR4 : R4 = R4 := rfl
name_quick R4 for Hd.R4 by Hd.rR4
theorem q4 : PySem.W.Fast.L4 = PySem.W.Fast.R4 := by kernel_rfl
theorem e4 : L4 = R4 := PySem.W.Fast.L4_eq.trans (q4.trans PySem.W.Fast.R4_eq.symm)
def hF0 : List Obj := (boot_o_0 P) :: (boot_o_1 P) :: (boot_o_2 P) :: (o3 P) :: (boot_o_4 P) :: (boot_o_5 P) :: (boot_o_6 P) :: (boot_o_7 P) :: (boot_o_8 P) :: (boot_o_9 P) :: (boot_o_10 P) :: eT :: o12 :: o13 :: o14 :: o15 :: r
def Yn : List Obj := o16 :: (o17 P) :: eT :: eF :: o20 :: o21 :: eT :: (Mine.k23 P) :: Mine.k24 :: Mine.k25 :: o26 :: o27 :: o28 :: o16 :: (o30 P) :: eT :: r
def X8 : List Obj := eF :: o33 :: o34 :: eT :: (Mine.k36 P) :: Mine.k37 :: o38 :: o39 :: o28 :: o16 :: (o42 P) :: eT :: eF :: o45 :: o46 :: eT :: r
def YJ : List Obj := (Mine.k48 P) :: Mine.k49 :: o50 :: o51 :: o28 :: o16 :: (o54 P) :: eT :: o56 :: o57 :: o58 :: eT :: eF :: o61 :: eT :: o63 :: r
def Yi : List Obj := Mine.k64 :: Mine.k65 :: o66 :: (Mine.k67 P) :: Mine.k68 :: o69 :: o70 :: o28 :: o16 :: (o73 P) :: eT :: o75 :: o76 :: o77 :: eT :: eF :: r
def Yv : List Obj := o80 :: eT :: o82 :: Mine.k83 :: Mine.k84 :: o85 :: (Mine.k86 P) :: Mine.k87 :: o88 :: o89 :: o28 :: o16 :: (o92 P) :: eT :: o94 :: o95 :: r
def Yx : List Obj := o96 :: eT :: eF :: o99 :: eT :: UJ :: Mine.k102 :: Mine.k103 :: QG :: (Mine.k105 P) :: Mine.k106 :: Ww :: Qp :: o28 :: o16 :: (o111 P) :: r
def SX : List Obj := eT :: Sg :: N7 :: R8 :: eT :: eF :: UG :: eT :: Np :: Mine.k121 :: Mine.k122 :: NZ :: (Mine.k124 P) :: Mine.k125 :: Vu :: Rw :: r
def QJ : List Obj := o28 :: o16 :: (Ni P) :: eT :: Uo :: Td :: Vd :: eT :: eF :: RG :: eT :: WT :: Mine.k140 :: Mine.k141 :: QB :: (Mine.k143 P) :: r
def VL : List Obj := Mine.k144 :: R9 :: N6 :: o28 :: o16 :: (Ra P) :: eT :: Vt :: QM :: Oj :: eT :: eF :: Tn :: eT :: Tg :: Mine.k159 :: r
def R7 : List Obj := Mine.k160 :: Pz :: (Mine.k162 P) :: Mine.k163 :: Wa :: W3 :: o28 :: o16 :: (RP P) :: eT :: Qi :: Wr :: RL :: eT :: eF :: Ss :: r
def U6 : List Obj := eT :: Qh :: Mine.k178 :: Mine.k179 :: Wo :: (Mine.k181 P) :: Mine.k182 :: RV :: Vh :: o28 :: o16 :: (Pr P) :: eT :: M4 :: Ru :: Xb :: r
def Wl : List Obj := eT :: eF :: Vf :: eT :: Ws :: Mine.k197 :: Mine.k198 :: O1 :: (Mine.k200 P) :: Mine.k201 :: Nv :: Uv :: o28 :: o16 :: (Ry P) :: eT :: r
def Wj : List Obj := Xc :: Qn :: WK :: eT :: eF :: Qx :: eT :: Qk :: Mine.k216 :: Mine.k217 :: PB :: (Mine.k219 P) :: Mine.k220 :: W9 :: T6 :: o28 :: r
def QT : List Obj := o16 :: (PX P) :: eT :: PN :: V0 :: Qj :: eT :: eF :: W7 :: eT :: Qe :: Mine.k235 :: Mine.k236 :: Uk :: (Mine.k238 P) :: Mine.k239 :: r
def QW : List Obj := Qc :: P0 :: o28 :: o16 :: (S6 P) :: eT :: Uu :: Ve :: Vs :: eT :: eF :: PL :: eT :: Uh :: Mine.k254 :: Mine.k255 :: r
def N8 : List Obj := Tq :: (Mine.k257 P) :: Mine.k258 :: Xd :: Sh :: eT :: eF :: Vq :: Mine.k264 :: Mine.k265 :: eT :: eF :: Qy :: Mine.k269 :: Mine.k270 :: eT :: r
def Ro (P : Params) (r : List Obj) : List Obj := eF :: Sy :: eT :: Wt :: Mine.k276 :: Mine.k277 :: eT :: eF :: Px :: Mine.k281 :: Mine.k282 :: eT :: eF :: Rm :: eT :: RJ :: r
def Ut (P : Params) (r : List Obj) : List Obj := Mine.k288 :: Mine.k289 :: eT :: eF :: Qa :: eT :: Uy :: Mine.k295 :: Mine.k296 :: eT :: eF :: WW :: eT :: VG :: Mine.k302 :: Mine.k303 :: r
def Ol (P : Params) (r : List Obj) : List Obj := eT :: eF :: W2 :: eT :: Ri :: Mine.k309 :: Mine.k310 :: eT :: eF :: SJ :: eT :: QC :: Mine.k316 :: Mine.k317 :: eT :: eF :: r
def Rq : List Obj := Wg :: eT :: NQ :: Mine.k323 :: Mine.k324 :: eT :: eF :: Ny :: Mine.k328 :: Mine.k329 :: eT :: o16 :: (Wm P) :: eT :: Q3 :: Nm :: r
def Qm (P : Params) (r : List Obj) : List Obj := PQ :: eT :: eF :: NK :: eT :: TV :: Mine.k342 :: Mine.k343 :: eT :: eF :: O6 :: eT :: Py :: Mine.k349 :: Mine.k350 :: eT :: r
def Tv : List Obj := eF :: Wi :: eT :: Sv :: Mine.k356 :: Mine.k357 :: eT :: (Mine.k359 P) :: Mine.k360 :: Mine.k361 :: Mine.k362 :: Rx :: VH :: sV :: o16 :: (Um P) :: r
def U3 (P : Params) (r : List Obj) : List Obj := eT :: Nx :: Nz :: W0 :: eT :: eF :: U7 :: eT :: WD :: Mine.k377 :: Mine.k378 :: eT :: eF :: Rc :: eT :: Nu :: r
def Ti : List Obj := Mine.k384 :: Mine.k385 :: eT :: eF :: Qd :: eT :: Pn :: Mine.k391 :: Mine.k392 :: Nr :: (Mine.k394 P) :: Mine.k395 :: Nt :: Ng :: sV :: o16 :: r
def Qg : List Obj := (o400 P) :: eT :: UT :: W8 :: WL :: eT :: eF :: Tw :: eT :: Ox :: Mine.k410 :: Mine.k411 :: eT :: eF :: Wq :: eT :: r
def NP : List Obj := Q5 :: Mine.k417 :: Mine.k418 :: eT :: eF :: S5 :: eT :: U4 :: Mine.k424 :: Mine.k425 :: Nq :: (Mine.k427 P) :: Mine.k428 :: WP :: T8 :: sV :: r
def QL : List Obj := o16 :: (Oo P) :: eT :: Vn :: Rr :: RB :: eT :: eF :: WQ :: eT :: W4 :: Mine.k443 :: Mine.k444 :: eT :: eF :: VB :: r
def T5 (P : Params) (r : List Obj) : List Obj := eT :: Oe :: Mine.k450 :: Mine.k451 :: eT :: eF :: WM :: eT :: Qv :: Mine.k457 :: Mine.k458 :: eT :: eF :: Sd :: eT :: Vw :: r
def Oh : List Obj := Mine.k464 :: Mine.k465 :: V8 :: (Mine.k467 P) :: Mine.k468 :: RZ :: O5 :: sV :: o16 :: (W5 P) :: eT :: VD :: Pq :: NB :: eT :: eF :: r
def Ul (P : Params) (r : List Obj) : List Obj := S8 :: eT :: U8 :: Mine.k483 :: Mine.k484 :: eT :: eF :: S7 :: eT :: Pk :: Mine.k490 :: Mine.k491 :: eT :: eF :: WX :: eT :: r
def Qu : List Obj := VN :: Mine.k497 :: Mine.k498 :: eT :: eF :: Rg :: eT :: We :: Mine.k504 :: Mine.k505 :: U0 :: (Mine.k507 P) :: Mine.k508 :: Xa :: Qw :: sV :: r
def PP : List Obj := o16 :: (U5 P) :: eT :: O4 :: Nh :: QH :: eT :: eF :: PK :: eT :: Rn :: Mine.k523 :: Mine.k524 :: eT :: eF :: Tz :: r
def TX (P : Params) (r : List Obj) : List Obj := eT :: Tc :: Mine.k530 :: Mine.k531 :: eT :: eF :: Qf :: eT :: Wh :: Mine.k537 :: Mine.k538 :: eT :: eF :: QZ :: eT :: Sw :: r
def Tr : List Obj := Mine.k544 :: Mine.k545 :: VJ :: (Mine.k547 P) :: Mine.k548 :: V3 :: Qs :: sV :: o16 :: (O8 P) :: eT :: o555 :: Qt :: Ub :: eT :: eF :: r
def QQ : List Obj := W6 :: eT :: Uj :: Mine.k563 :: Mine.k564 :: eT :: eF :: Rv :: eT :: Vl :: Mine.k570 :: Mine.k571 :: Ur :: (Mine.k573 P) :: Mine.k574 :: Pg :: r
def Te (P : Params) (r : List Obj) : List Obj := Vg :: eT :: eF :: O7 :: eT :: Wx :: Mine.k582 :: Mine.k583 :: eT :: eF :: Od :: eT :: Q6 :: Mine.k589 :: Mine.k590 :: eT :: r
def RT (P : Params) (r : List Obj) : List Obj := eF :: QR :: eT :: NT :: Mine.k596 :: Mine.k597 :: eT :: eF :: o600 :: eT :: WY :: Mine.k603 :: Mine.k604 :: eT :: eF :: Tj :: r
def Oq (P : Params) (r : List Obj) : List Obj := eT :: S9 :: Mine.k610 :: Mine.k611 :: eT :: eF :: RX :: eT :: Wc :: Mine.k617 :: Mine.k618 :: eT :: eF :: V6 :: eT :: Nj :: r
def Ot (P : Params) (r : List Obj) : List Obj := Mine.k624 :: Mine.k625 :: eT :: eF :: VR :: eT :: Vm :: Mine.k631 :: Mine.k632 :: eT :: eF :: QK :: eT :: Su :: Mine.k638 :: Mine.k639 :: r
def Sq (P : Params) (r : List Obj) : List Obj := eT :: eF :: T9 :: eT :: OD :: Mine.k645 :: Mine.k646 :: eT :: eF :: Pb :: eT :: Xe :: Mine.k652 :: Mine.k653 :: eT :: eF :: r
def Q7 (P : Params) (r : List Obj) : List Obj := Wk :: eT :: Vy :: Mine.k659 :: Mine.k660 :: eT :: eF :: Oz :: Mine.k664 :: Mine.k665 :: eT :: eF :: Ov :: eT :: Sx :: Mine.k671 :: r
def SN (P : Params) (r : List Obj) : List Obj := Mine.k672 :: eT :: eF :: Wf :: Mine.k676 :: Mine.k677 :: eT :: eF :: Vk :: Mine.k681 :: Mine.k682 :: eT :: eF :: Q9 :: Mine.k686 :: Mine.k687 :: r
def Ua (P : Params) (r : List Obj) : List Obj := eT :: eF :: WR :: eT :: Ph :: Mine.k693 :: Mine.k694 :: eT :: eF :: VP :: eT :: Og :: Mine.k700 :: Mine.k701 :: eT :: eF :: r
def Q0 (P : Params) (r : List Obj) : List Obj := Th :: Mine.k705 :: Mine.k706 :: eT :: eF :: O9 :: eT :: V1 :: Mine.k712 :: Mine.k713 :: eT :: eF :: Vr :: eT :: Rh :: Mine.k719 :: r
def Q4 (P : Params) (r : List Obj) : List Obj := Mine.k720 :: eT :: eF :: Ou :: eT :: TY :: Mine.k726 :: Mine.k727 :: eT :: eF :: T4 :: Mine.k731 :: Mine.k732 :: eT :: eF :: M6 :: r
def Oc (P : Params) (r : List Obj) : List Obj := Mine.k736 :: Mine.k737 :: eT :: eF :: Oa :: eT :: Vz :: Mine.k743 :: Mine.k744 :: eT :: eF :: Vp :: eT :: RW :: Mine.k750 :: Mine.k751 :: r
def Tt (P : Params) (r : List Obj) : List Obj := eT :: eF :: M5 :: Mine.k755 :: Mine.k756 :: eT :: eF :: T7 :: Mine.k760 :: Mine.k761 :: eT :: eF :: Rk :: eT :: SM :: Mine.k767 :: r
def WF (P : Params) (r : List Obj) : List Obj := Mine.k768 :: eT :: eF :: T3 :: Mine.k772 :: Mine.k773 :: eT :: eF :: Wb :: eT :: Oi :: Mine.k779 :: Mine.k780 :: eT :: eF :: Nk :: r
def Tp (P : Params) (r : List Obj) : List Obj := eT :: Wz :: Mine.k786 :: Mine.k787 :: eT :: eF :: Vo :: eT :: Wy :: Mine.k793 :: Mine.k794 :: eT :: eF :: M3 :: eT :: Ql :: r
def MT (P : Params) (r : List Obj) : List Obj := Mine.k800 :: Mine.k801 :: eT :: eF :: O2 :: eT :: RQ :: Mine.k807 :: Mine.k808 :: eT :: eF :: N5 :: eT :: Uq :: Mine.k814 :: Mine.k815 :: r
def Ui (P : Params) (r : List Obj) : List Obj := eT :: eF :: Qz :: eT :: Rj :: Mine.k821 :: Mine.k822 :: r
def hF : Heap := ⟨Array.mk (hF0 P (Yn P (X8 P (YJ P (Yi P (Yv P (Yx P (SX P (QJ P (VL P (R7 P (U6 P (Wl P (Wj P (QT P (QW P (N8 P (Ro P (Ut P (Ol P (Rq P (Qm P (Tv P (U3 P (Ti P (Qg P (NP P (QL P (T5 P (Oh P (Ul P (Qu P (PP P (TX P (Tr P (QQ P (Te P (RT P (Oq P (Ot P (Sq P (Q7 P (SN P (Ua P (Q0 P (Q4 P (Oc P (Tt P (WF P (Tp P (MT P (Ui P ([]))))))))))))))))))))))))))))))))))))))))))))))))))))), { }⟩
def Lf (w : World) (os : OsState) : Option Shared := topRun treeTable pw_drawhouse_k22_no_rows w 11 (some (Value.ref 6)) 2 (SharedT.abs ⟨t5 w.params, nat_lit 823, { }, Array.mk [], { }, nat_lit 1238, os⟩) ⟨doneF .next, cE, { line := 473, col := 0, endLine := 487, endCol := 113 }, fr⟩
def Rf (w : World) (os : OsState) : Option Shared := some ⟨hF w.params, Array.mk [], { }, nat_lit 1238, os⟩
theorem rLf : Lf = Lf := rfl
name_quick Lf for Hd.Lf by Hd.rLf
theorem rRf : Rf = Rf := rfl
name_quick Rf for Hd.Rf by Hd.rRf
theorem qf : PySem.W.Fast.Lf = PySem.W.Fast.Rf := by kernel_rfl
theorem ef : Lf = Rf := PySem.W.Fast.Lf_eq.trans (qf.trans PySem.W.Fast.Rf_eq.symm)
theorem ed : (behindTheImports pw_drawhouse_k22_no_rows).drop 83 = [] := by kernel_rfl
theorem pd {w : World} {k m n N : Nat} {s s' r : Shared} {c : Code} {pos p' : Pos} (h : segRun treeTable pw_drawhouse_k22_no_rows w 11 (some (Value.ref 6)) 1 n s (piecesOf (sl k m) env c pos fr) = some (.next, s', c, p'))
  (k2 : topRun treeTable pw_drawhouse_k22_no_rows w 11 (some (Value.ref 6)) N s' (restOf ((behindTheImports pw_drawhouse_k22_no_rows).drop (k + m)) env c p' fr) = some r) : topRun treeTable pw_drawhouse_k22_no_rows w 11 (some (Value.ref 6)) (n + N) s (restOf ((behindTheImports pw_drawhouse_k22_no_rows).drop k) env c pos fr) = some r := by
 have z := piece_app h k2
 have e : sl k m ++ (behindTheImports pw_drawhouse_k22_no_rows).drop (k + m) = (behindTheImports pw_drawhouse_k22_no_rows).drop k := by
  unfold sl
  rw [<- List.drop_drop]
  exact List.take_append_drop m _
 rwa [e] at z
theorem run (w : World) (os : OsState) : topRun treeTable pw_drawhouse_k22_no_rows w 11 (some (Value.ref 6)) (12 + (1 + (1357 + (1471 + (1495 + (1332 + (1421 + (2)))))))) ⟨boot_heap w.params, Array.mk [], boot_drawn, boot_toks, os⟩ (topStub pw_drawhouse_k22_no_rows) = some ⟨hF w.params, Array.mk [], { }, nat_lit 1238, os⟩ :=
 go_top (congrFun (congrFun ep w) os) (piece_block (congrFun (congrFun eb w) os)
  (pd (k := 0) (m := 7) (segRun_of (congrFun (congrFun e0 w) os))
  (pd (k := 7) (m := 6) (segRun_of (congrFun (congrFun e1 w) os))
  (pd (k := 13) (m := 25) (segRun_of (congrFun (congrFun e2 w) os))
  (pd (k := 38) (m := 4) (segRun_of (congrFun (congrFun e3 w) os))
  (pd (k := 42) (m := 41) (segRun_of (congrFun (congrFun e4 w) os))
  (by rw [show 42 + 41 = 83 from rfl, ed]; exact piece_nil (congrFun (congrFun ef w) os))))))))
def qv : Program := { pw_drawhouse_k22_no_rows with main := { pw_drawhouse_k22_no_rows.main with body := (1 :: 2 :: 3 :: 4 :: 5 :: 6 :: 7 :: 8 :: 9 :: 10 :: 11 :: 12 :: 13 :: 14 :: 16 :: 17 :: 18 :: 19 :: 20 :: 21 :: 23 :: 24 :: 25 :: 26 :: 27 :: 28 :: 29 :: 30 :: 31 :: 32 :: 33 :: 34 :: 36 :: 37 :: 38 :: 39 :: 40 :: 41 :: 42 :: 44 :: 45 :: 46 :: 47 :: 48 :: 49 :: 50 :: 51 :: 53 :: 54 :: 55 :: 56 :: 57 :: 58 :: 59 :: 60 :: 61 :: 62 :: 63 :: 64 :: 65 :: 66 :: 67 :: 68 :: 69 :: 70 :: 71 :: 72 :: 73 :: 74 :: 75 :: 76 :: 77 :: 78 :: 79 :: 80 :: 81 :: 82 :: []).filterMap fun i => pw_drawhouse_k22_no_rows.main.body[i]? } }
def loose : List Str := []
def lv : List (Str × WData) := []
def xt (s : Shared) : Bool := xlAt qv lv s && recOk (RowW.records (OpenRow.toRowW (OpenLaw.row rw_drawhouse_k22_no_rows))) s
def as : List Addr := nat_lit 2 :: nat_lit 3 :: nat_lit 23 :: nat_lit 24 :: nat_lit 25 :: nat_lit 36 :: nat_lit 37 :: nat_lit 48 :: nat_lit 49 :: nat_lit 64 :: nat_lit 65 :: nat_lit 67 :: nat_lit 68 :: nat_lit 83 :: nat_lit 84 :: nat_lit 86 :: nat_lit 87 :: nat_lit 102 :: nat_lit 103 :: nat_lit 105 :: nat_lit 106 :: nat_lit 121 :: nat_lit 122 :: nat_lit 124 :: nat_lit 125 :: nat_lit 140 :: nat_lit 141 :: nat_lit 143 :: nat_lit 144 :: nat_lit 159 :: nat_lit 160 :: nat_lit 162 :: nat_lit 163 :: nat_lit 178 :: nat_lit 179 :: nat_lit 181 :: nat_lit 182 :: nat_lit 197 :: nat_lit 198 :: nat_lit 200 :: nat_lit 201 :: nat_lit 216 :: nat_lit 217 :: nat_lit 219 :: nat_lit 220 :: nat_lit 235 :: nat_lit 236 :: nat_lit 238 :: nat_lit 239 :: nat_lit 254 :: nat_lit 255 :: nat_lit 257 :: nat_lit 258 :: nat_lit 264 :: nat_lit 265 :: nat_lit 269 :: nat_lit 270 :: nat_lit 276 :: nat_lit 277 :: nat_lit 281 :: nat_lit 282 :: nat_lit 288 :: nat_lit 289 :: nat_lit 295 :: nat_lit 296 :: nat_lit 302 :: nat_lit 303 :: nat_lit 309 :: nat_lit 310 :: nat_lit 316 :: nat_lit 317 :: nat_lit 323 :: nat_lit 324 :: nat_lit 328 :: nat_lit 329 :: nat_lit 342 :: nat_lit 343 :: nat_lit 349 :: nat_lit 350 :: nat_lit 356 :: nat_lit 357 :: nat_lit 359 :: nat_lit 360 :: nat_lit 361 :: nat_lit 362 :: nat_lit 377 :: nat_lit 378 :: nat_lit 384 :: nat_lit 385 :: nat_lit 391 :: nat_lit 392 :: nat_lit 394 :: nat_lit 395 :: nat_lit 410 :: nat_lit 411 :: nat_lit 417 :: nat_lit 418 :: nat_lit 424 :: nat_lit 425 :: nat_lit 427 :: nat_lit 428 :: nat_lit 443 :: nat_lit 444 :: nat_lit 450 :: nat_lit 451 :: nat_lit 457 :: nat_lit 458 :: nat_lit 464 :: nat_lit 465 :: nat_lit 467 :: nat_lit 468 :: nat_lit 483 :: nat_lit 484 :: nat_lit 490 :: nat_lit 491 :: nat_lit 497 :: nat_lit 498 :: nat_lit 504 :: nat_lit 505 :: nat_lit 507 :: nat_lit 508 :: nat_lit 523 :: nat_lit 524 :: nat_lit 530 :: nat_lit 531 :: nat_lit 537 :: nat_lit 538 :: nat_lit 544 :: nat_lit 545 :: nat_lit 547 :: nat_lit 548 :: nat_lit 563 :: nat_lit 564 :: nat_lit 570 :: nat_lit 571 :: nat_lit 573 :: nat_lit 574 :: nat_lit 582 :: nat_lit 583 :: nat_lit 589 :: nat_lit 590 :: nat_lit 596 :: nat_lit 597 :: nat_lit 603 :: nat_lit 604 :: nat_lit 610 :: nat_lit 611 :: nat_lit 617 :: nat_lit 618 :: nat_lit 624 :: nat_lit 625 :: nat_lit 631 :: nat_lit 632 :: nat_lit 638 :: nat_lit 639 :: nat_lit 645 :: nat_lit 646 :: nat_lit 652 :: nat_lit 653 :: nat_lit 659 :: nat_lit 660 :: nat_lit 664 :: nat_lit 665 :: nat_lit 671 :: nat_lit 672 :: nat_lit 676 :: nat_lit 677 :: nat_lit 681 :: nat_lit 682 :: nat_lit 686 :: nat_lit 687 :: nat_lit 693 :: nat_lit 694 :: nat_lit 700 :: nat_lit 701 :: nat_lit 705 :: nat_lit 706 :: nat_lit 712 :: nat_lit 713 :: nat_lit 719 :: nat_lit 720 :: nat_lit 726 :: nat_lit 727 :: nat_lit 731 :: nat_lit 732 :: nat_lit 736 :: nat_lit 737 :: nat_lit 743 :: nat_lit 744 :: nat_lit 750 :: nat_lit 751 :: nat_lit 755 :: nat_lit 756 :: nat_lit 760 :: nat_lit 761 :: nat_lit 767 :: nat_lit 768 :: nat_lit 772 :: nat_lit 773 :: nat_lit 779 :: nat_lit 780 :: nat_lit 786 :: nat_lit 787 :: nat_lit 793 :: nat_lit 794 :: nat_lit 800 :: nat_lit 801 :: nat_lit 807 :: nat_lit 808 :: nat_lit 814 :: nat_lit 815 :: nat_lit 821 :: nat_lit 822 :: []
theorem ke (P : Params) : as = (Mine.myK P).map (·.1) := by kernel_rfl
def Ls (w : World) : Bool × Nat × Option Value := ((boot_heap w.params).isNs mainGlobals && (Array.mk [] : Array GenState).size == 0, (boot_heap w.params).objs.size, (boot_heap w.params).nsMap mainGlobals "__annotations__")
def Rs (w : World) : Bool × Nat × Option Value := (true, 11, some (Value.ref 6))
theorem es : Ls = Rs := by kernel_rfl
def Lk0 (w : World) (os : OsState) : Bool := staticsOk (importedModules pw_drawhouse_k22_no_rows.main.body) (boot_heap w.params) (hF w.params) && namesBound pw_drawhouse_k22_no_rows (hF w.params) && gensDone ⟨hF w.params, Array.mk [], { }, nat_lit 1238, os⟩ && laidKept (boot_heap w.params) (hF w.params)
def Rk0 (_ : World) (_ : OsState) : Bool := true
theorem rLk0 : Lk0 = Lk0 := rfl
name_quick Lk0 for Hd.Lk0 by Hd.rLk0
theorem qk0 : PySem.W.Fast.Lk0 = Rk0 := by kernel_rfl
theorem ek0 : Lk0 = Rk0 := PySem.W.Fast.Lk0_eq.trans qk0
def Lk1 (w : World) (os : OsState) := (openSeen qv loose (importedModules pw_drawhouse_k22_no_rows.main.body) xt true ⟨hF w.params, Array.mk [], { }, nat_lit 1238, os⟩).1
def Rk1 (_ : World) (_ : OsState) := (openGood qv loose).1
theorem rLk1 : Lk1 = Lk1 := rfl
name_quick Lk1 for Hd.Lk1 by Hd.rLk1
theorem rRk1 : Rk1 = Rk1 := rfl
name_quick Rk1 for Hd.Rk1 by Hd.rRk1
theorem qk1 : PySem.W.Fast.Lk1 = PySem.W.Fast.Rk1 := by kernel_rfl
theorem ek1 : Lk1 = Rk1 := PySem.W.Fast.Lk1_eq.trans (qk1.trans PySem.W.Fast.Rk1_eq.symm)
def Lk2 (w : World) (os : OsState) := (openSeen qv loose (importedModules pw_drawhouse_k22_no_rows.main.body) xt true ⟨hF w.params, Array.mk [], { }, nat_lit 1238, os⟩).2.1
def Rk2 (_ : World) (_ : OsState) := (openGood qv loose).2.1
theorem rLk2 : Lk2 = Lk2 := rfl
name_quick Lk2 for Hd.Lk2 by Hd.rLk2
theorem qk2 : PySem.W.Fast.Lk2 = Rk2 := by kernel_rfl
theorem ek2 : Lk2 = Rk2 := PySem.W.Fast.Lk2_eq.trans qk2
def Lk3 (w : World) (os : OsState) := (openSeen qv loose (importedModules pw_drawhouse_k22_no_rows.main.body) xt true ⟨hF w.params, Array.mk [], { }, nat_lit 1238, os⟩).2.2.1
def Rk3 (_ : World) (_ : OsState) := (openGood qv loose).2.2.1
theorem rLk3 : Lk3 = Lk3 := rfl
name_quick Lk3 for Hd.Lk3 by Hd.rLk3
theorem qk3 : PySem.W.Fast.Lk3 = Rk3 := by kernel_rfl
theorem ek3 : Lk3 = Rk3 := PySem.W.Fast.Lk3_eq.trans qk3
def Lk4 (w : World) (os : OsState) := (openSeen qv loose (importedModules pw_drawhouse_k22_no_rows.main.body) xt true ⟨hF w.params, Array.mk [], { }, nat_lit 1238, os⟩).2.2.2.1
def Rk4 (_ : World) (_ : OsState) := (openGood qv loose).2.2.2.1
theorem rLk4 : Lk4 = Lk4 := rfl
name_quick Lk4 for Hd.Lk4 by Hd.rLk4
theorem qk4 : PySem.W.Fast.Lk4 = Rk4 := by kernel_rfl
theorem ek4 : Lk4 = Rk4 := PySem.W.Fast.Lk4_eq.trans qk4
def Lk5 (w : World) (os : OsState) := (openSeen qv loose (importedModules pw_drawhouse_k22_no_rows.main.body) xt true ⟨hF w.params, Array.mk [], { }, nat_lit 1238, os⟩).2.2.2.2.1
def Rk5 (_ : World) (_ : OsState) := (openGood qv loose).2.2.2.2.1
theorem rLk5 : Lk5 = Lk5 := rfl
name_quick Lk5 for Hd.Lk5 by Hd.rLk5
theorem rRk5 : Rk5 = Rk5 := rfl
name_quick Rk5 for Hd.Rk5 by Hd.rRk5
theorem qk5 : PySem.W.Fast.Lk5 = PySem.W.Fast.Rk5 := by kernel_rfl
theorem ek5 : Lk5 = Rk5 := PySem.W.Fast.Lk5_eq.trans (qk5.trans PySem.W.Fast.Rk5_eq.symm)
def Lk6 (w : World) (os : OsState) := (openSeen qv loose (importedModules pw_drawhouse_k22_no_rows.main.body) xt true ⟨hF w.params, Array.mk [], { }, nat_lit 1238, os⟩).2.2.2.2.2.1
def Rk6 (_ : World) (_ : OsState) := (openGood qv loose).2.2.2.2.2.1
theorem rLk6 : Lk6 = Lk6 := rfl
name_quick Lk6 for Hd.Lk6 by Hd.rLk6
theorem rRk6 : Rk6 = Rk6 := rfl
name_quick Rk6 for Hd.Rk6 by Hd.rRk6
theorem qk6 : PySem.W.Fast.Lk6 = PySem.W.Fast.Rk6 := by kernel_rfl
theorem ek6 : Lk6 = Rk6 := PySem.W.Fast.Lk6_eq.trans (qk6.trans PySem.W.Fast.Rk6_eq.symm)
def Lk7 (w : World) (os : OsState) := (openSeen qv loose (importedModules pw_drawhouse_k22_no_rows.main.body) xt true ⟨hF w.params, Array.mk [], { }, nat_lit 1238, os⟩).2.2.2.2.2.2.1
def Rk7 (_ : World) (_ : OsState) := (openGood qv loose).2.2.2.2.2.2.1
theorem rLk7 : Lk7 = Lk7 := rfl
name_quick Lk7 for Hd.Lk7 by Hd.rLk7
theorem rRk7 : Rk7 = Rk7 := rfl
name_quick Rk7 for Hd.Rk7 by Hd.rRk7
theorem qk7 : PySem.W.Fast.Lk7 = PySem.W.Fast.Rk7 := by kernel_rfl
theorem ek7 : Lk7 = Rk7 := PySem.W.Fast.Lk7_eq.trans (qk7.trans PySem.W.Fast.Rk7_eq.symm)
def Lk8 (w : World) (os : OsState) := (openSeen qv loose (importedModules pw_drawhouse_k22_no_rows.main.body) xt true ⟨hF w.params, Array.mk [], { }, nat_lit 1238, os⟩).2.2.2.2.2.2.2.1
def Rk8 (_ : World) (_ : OsState) := (openGood qv loose).2.2.2.2.2.2.2.1
theorem rLk8 : Lk8 = Lk8 := rfl
name_quick Lk8 for Hd.Lk8 by Hd.rLk8
theorem rRk8 : Rk8 = Rk8 := rfl
name_quick Rk8 for Hd.Rk8 by Hd.rRk8
theorem qk8 : PySem.W.Fast.Lk8 = PySem.W.Fast.Rk8 := by kernel_rfl
theorem ek8 : Lk8 = Rk8 := PySem.W.Fast.Lk8_eq.trans (qk8.trans PySem.W.Fast.Rk8_eq.symm)
def Lk9 (w : World) (os : OsState) := (openSeen qv loose (importedModules pw_drawhouse_k22_no_rows.main.body) xt true ⟨hF w.params, Array.mk [], { }, nat_lit 1238, os⟩).2.2.2.2.2.2.2.2
def Rk9 (_ : World) (_ : OsState) := (openGood qv loose).2.2.2.2.2.2.2.2
theorem rLk9 : Lk9 = Lk9 := rfl
name_quick Lk9 for Hd.Lk9 by Hd.rLk9
theorem rRk9 : Rk9 = Rk9 := rfl
name_quick Rk9 for Hd.Rk9 by Hd.rRk9
theorem qk9 : PySem.W.Fast.Lk9 = PySem.W.Fast.Rk9 := by kernel_rfl
theorem ek9 : Lk9 = Rk9 := PySem.W.Fast.Lk9_eq.trans (qk9.trans PySem.W.Fast.Rk9_eq.symm)
def XC (w : World) (_ : OsState) : List (Option Obj) := as.map (hF w.params).get?
def Yr (w : World) (_ : OsState) : List (Option Obj) := (Mine.myK w.params).map fun p => some p.2
theorem X6 : XC = Yr := by kernel_rfl
theorem c {α : Type} {f g : World -> OsState -> α} (h : f = g) {w : World} {os : OsState} : f w os = g w os := h ▸ rfl
theorem ek (w : World) : (fun os => ((staticsOk (importedModules pw_drawhouse_k22_no_rows.main.body) (boot_heap w.params) (hF w.params) && namesBound pw_drawhouse_k22_no_rows (hF w.params) && gensDone ⟨hF w.params, Array.mk [], { }, nat_lit 1238, os⟩ && laidKept (boot_heap w.params) (hF w.params)), openSeen qv loose (importedModules pw_drawhouse_k22_no_rows.main.body) xt true ⟨hF w.params, Array.mk [], { }, nat_lit 1238, os⟩, Hook.obs (kHook Mine.myK as ke) ⟨hF w.params, Array.mk [], { }, nat_lit 1238, os⟩)) = fun _ => (true, openGood qv loose, Hook.val (kHook Mine.myK as ke) w) :=
 funext fun os => Prod.ext (congrFun (congrFun ek0 w) os) (Prod.ext (Prod.ext (c ek1) (Prod.ext (c ek2) (Prod.ext (c ek3) (Prod.ext (c ek4) (Prod.ext (c ek5) (Prod.ext (c ek6) (Prod.ext (c ek7) (Prod.ext (c ek8) (c ek9))))))))) (congrFun (congrFun X6 w) os))
theorem op : opening pw_drawhouse_k22_no_rows = plainProg pw_drawhouse_k22_no_rows.main.scope.names := by kernel_rfl
theorem fn (s : Shared) : fenceModules? pw_drawhouse_k22_no_rows s = some s := by kernel_rfl
theorem left : LeftO pw_drawhouse_k22_no_rows qv loose xt (Hook.obs (kHook Mine.myK as ke)) (Hook.val (kHook Mine.myK as ke)) 14268 true := by
 refine LeftO.of_pieces (boot_open op rfl fn) (congrFun es) run rfl ek
end
end Hd
open PySem PySem.W PyProof.Rows
set_option maxRecDepth 100000 in
set_option maxHeartbeats 0 in
theorem PySem.Challenge.cw_drawhouse_k22_no_rows_holds : PySem.Challenge.rw_drawhouse_k22_no_rows.Holds := by
 w_on; o_law
 refine holds_open (r := OpenLaw.row rw_drawhouse_k22_no_rows) (q := Hd.qv) (loose := Hd.loose) (Xt := Hd.xt) (XP := XL Hd.qv Hd.lv) (Yf := Hook.obs (kHook Mine.myK Hd.as Hd.ke)) (Ya := Hook.val (kHook Mine.myK Hd.as Hd.ke))
  (YP := Hook.says (kHook Mine.myK Hd.as Hd.ke)) Hd.left (Hook.of (kHook Mine.myK Hd.as Hd.ke)) (Hook.keeps (kHook Mine.myK Hd.as Hd.ke)) (fun s e => xl_of s (Bool.and_eq_true_iff.mp e).1) XL.keeps Z3 Z3 Z3
  (fun s e => recFacts_of (Bool.and_eq_true_iff.mp e).2) rfl (by assumption) Z4 ⟨rfl, rfl, rfl, rfl, rfl, Z4⟩ ?hw ?hc
 (case hw => w_witness2)
 k_fill
 refine Mine.walk (l := rw_drawhouse_k22_no_rows) rfl rfl (fun w h Y => PySem.W.kIn_of Y) ?F
 case F =>
  intro w mg fa h KX G hmg
  refine' Mine.Ma KX G hmg (Mine.fi ?_ ?_ ?_ ?_) (Mine.fi ?_ ?_ ?_ ?_) (Mine.fi ?_ ?_ ?_ ?_) (Mine.fi ?_ ?_ ?_ ?_) (Mine.fi ?_ ?_ ?_ ?_) (Mine.fi ?_ ?_ ?_ ?_) (Mine.fi ?_ ?_ ?_ ?_) (Mine.fi ?_ ?_ ?_ ?_) (Mine.fi ?_ ?_ ?_ ?_) (Mine.fi ?_ ?_ ?_ ?_) (Mine.fi ?_ ?_ ?_ ?_) (Mine.fi ?_ ?_ ?_ ?_) (Mine.fi ?_ ?_ ?_ ?_) (Mine.fi ?_ ?_ ?_ ?_) (Mine.fi ?_ ?_ ?_ ?_) (Mine.fi ?_ ?_ ?_ ?_) (Mine.fi ?_ ?_ ?_ ?_) (Mine.fi ?_ ?_ ?_ ?_) (Mine.fi ?_ ?_ ?_ ?_) (Mine.fi ?_ ?_ ?_ ?_) (Mine.fi ?_ ?_ ?_ ?_) (Mine.fi ?_ ?_ ?_ ?_) (Mine.fi ?_ ?_ ?_ ?_) (Mine.fi ?_ ?_ ?_ ?_) (Mine.fi ?_ ?_ ?_ ?_) (Mine.fi ?_ ?_ ?_ ?_) (Mine.fi ?_ ?_ ?_ ?_) (Mine.fi ?_ ?_ ?_ ?_) (Mine.fi ?_ ?_ ?_ ?_) (Mine.fi ?_ ?_ ?_ ?_) (Mine.fi ?_ ?_ ?_ ?_) (Mine.fi ?_ ?_ ?_ ?_) (Mine.fi ?_ ?_ ?_ ?_) (Mine.fi ?_ ?_ ?_ ?_) (Mine.fi ?_ ?_ ?_ ?_) (Mine.fi ?_ ?_ ?_ ?_) (Mine.fi ?_ ?_ ?_ ?_) (Mine.fi ?_ ?_ ?_ ?_) (Mine.fi ?_ ?_ ?_ ?_) (Mine.fi ?_ ?_ ?_ ?_) (Mine.fi ?_ ?_ ?_ ?_) (Mine.fi ?_ ?_ ?_ ?_) (Mine.fi ?_ ?_ ?_ ?_) (Mine.fi ?_ ?_ ?_ ?_) (Mine.fi ?_ ?_ ?_ ?_) (Mine.fi ?_ ?_ ?_ ?_) (Mine.fi ?_ ?_ ?_ ?_) (Mine.fi ?_ ?_ ?_ ?_) (Mine.fi ?_ ?_ ?_ ?_) ⟨?_, ?_, ?_, ?_, ?_, ?_, ?_, ?_, ?_, ?_, ?_⟩ ⟨?_, ?_, ?_, ?_, ?_, ?_, ?_, ?_, ?_, ?_, ?_⟩ ⟨?_, ?_, ?_, ?_, ?_, ?_, ?_, ?_, ?_, ?_, ?_⟩ ⟨?_, ?_, ?_, ?_, ?_, ?_, ?_, ?_, ?_, ?_, ?_⟩ ⟨?_, ?_, ?_, ?_, ?_, ?_, ?_, ?_, ?_, ?_, ?_⟩ ⟨?_, ?_, ?_, ?_, ?_, ?_, ?_, ?_, ?_, ?_, ?_⟩ ⟨?_, ?_, ?_, ?_, ?_, ?_, ?_, ?_, ?_, ?_, ?_⟩ ?_ ?_ ?_ ?_ ?_ ?_ ?_ ?_ ?_ ?_ ?_ ?_ ?_ ?_ ?_ ?_ ?_ ?_ ?_ ?_ ?_ ?_ ?_ ?_ ?_ ?_ ?_ ?_ ?_ ?_ ?_ ?_ ?_ ?_ ?_ ?_ ?_ ?_ ?_ ?_ ?_ ?_ ?_ ?_ ?_ ?_ ?_ ?_ ?_ ?_ ?_ ?_ ?_ ?_ ?_ ?_ ?_ ?_ ?_ ?_ ?_ ?_ ?_ ?_ ?_ ?_ ?_ ?_ ?_ ?_ ?_ ?_ (Mine.mi ?_ ?_ ?_ ?_) ?_ ?_ ?_ ?_ (Mine.mi ?_ ?_ ?_ ?_) ?_ (Mine.mi ?_ ?_ ?_ ?_) ?_ (Mine.mi ?_ ?_ ?_ ?_) ?_ (Mine.mi ?_ ?_ ?_ ?_) ?_ (Mine.mi ?_ ?_ ?_ ?_) ?_ (Mine.mi ?_ ?_ ?_ ?_) ?_ (Mine.mi ?_ ?_ ?_ ?_) ?_ (Mine.mi ?_ ?_ ?_ ?_) ?_ (Mine.mi ?_ ?_ ?_ ?_) ?_ (Mine.mi ?_ ?_ ?_ ?_) ?_ (Mine.mi ?_ ?_ ?_ ?_) ?_ (Mine.mi ?_ ?_ ?_ ?_) ?_ (Mine.mi ?_ ?_ ?_ ?_) ?_ (Mine.mi ?_ ?_ ?_ ?_) ?_ (Mine.mi ?_ ?_ ?_ ?_) ?_ (Mine.mi ?_ ?_ ?_ ?_) ?_ (Mine.mi ?_ ?_ ?_ ?_) ?_ (Mine.mi ?_ ?_ ?_ ?_) ?_ (Mine.mi ?_ ?_ ?_ ?_) ?_ (Mine.mi ?_ ?_ ?_ ?_) ?_ (Mine.mi ?_ ?_ ?_ ?_) ?_ (Mine.mi ?_ ?_ ?_ ?_) ?_ ?_ ⟨?_, (Mine.jE ?_), ?_, ?_, ?_, ?_, ?_, ?_, ?_⟩ (Mine.mi ?_ ?_ ?_ ?_) ?_ (Mine.jE ?_) ?_ (Mine.jE ?_) ?_ (Mine.jE ?_) ?_ (Mine.jE ?_) ?_ (Mine.jE ?_) ?_ (Mine.jE ?_) ?_ (Mine.jE ?_) ?_ (Mine.jE ?_) ?_ (Mine.jE ?_) ?_ (Mine.jE ?_) ?_ (Mine.jE ?_) ?_ (Mine.jE ?_) ?_ ?_ ?_ ?_ ?_ ?_ ?uSK ?uNI ?uND ?_ ?_ ?_ ?_ ?_ ?_ ?_ ?_ ?_ ?_ ?_ ?_ ?_ ?_ ?_ ?_ ?_ ?_ ?_ ?_ ?_ ?_ ?_ ?_
  any_goals k_is
  (case uSK => rfl); (case uNI => rfl); (case uND => decide)
#print axioms PySem.Challenge.cw_drawhouse_k22_no_rows_holds
