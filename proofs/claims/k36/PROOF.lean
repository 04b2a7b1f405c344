import PyProof.Rows.All
import Wide.All
import OpenK.AllK
import Wide.FinOn
import Lean
import PyProof.EqAt
import PyProof.EqKinds
import PyProof.TupleCall
import KE.KIntText
import PyProof.ZipIter
import PyProof.EnumFor
import PyProof.EnumMake
import PyProof.ExcClass3
import PyProof.ExcFactsAll.ValueError
import PyProof.ExcArgs
import PyProof.InstStoreFacts
import PyProof.ExcBaseAll.ValueError
import PyProof.Rows.FStr
import KE.KRevSl
import KE.KDictSum
import PyProof.NeKinds
import PyProof.MinMaxWalk
import PySem.Challenge.RW_drawhouse_k36_knots
set_option Elab.async false
set_option linter.all false
set_option maxRecDepth 100000
open PySem.W (instObj methodObj Frag lookIn plainGet hasDictIn findIn handedIn plainGet_of isFn plainOver takerIn makesIn typeIn emptyDict keepIn specialIn takesIn mroIn kitOne kia_one kitx_list kitx_dict callWith_K methodCall_KW fnOf codeIn OpenLaw WalkO readsIn findCls nsIn mg_of mg_none_of)
open Nat (lt_of_lt_of_le lt_irrefl ne_of_lt le_trans le_of_lt ne_of_gt le_refl zero_le le_of_eq le_succ lt_or_ge not_lt not_lt_zero zero_lt_one zero_add)
open List (mem_filter mem_range mem_cons_self mem_cons_of_mem mem_cons mem_append mem_append_left mem_append_right any_eq_false length_cons map_cons length_map append_nil nodup_cons length_take getElem?_append_right getElem?_append_left getElem?_map mem_of_getElem? length_append size_toArray any_cons reverse_cons length_reverse map_nil find?_cons mem_map map_eq_nil_iff getElem?_take append_assoc lookup_cons all_eq_true mem_singleton set_set length_range map_append take_length ext_getElem getElem?_eq_getElem filter_append filter_cons length_filter_le map_map mem_of_mem_take contains_cons ext_getElem? getElem_of_mem getElem_mem filter_congr nodup_nil nil_append length_take_le getElem?_inj map_take mem_reverse map_reverse length_pos_iff flatMap_cons take_succ length_take_le' take_zero)
open Array (length_toList toList_extract)
open Bool (and_eq_true eq_false_iff)
open Option (map_some bind_some)
open Int (emod_nonneg emod_lt_of_pos)
open PySem.Challenge (pw_drawhouse_k36_knots rw_drawhouse_k36_knots)
open PySem (boot_len)
open List.Perm (eq_of_pairwise)
open PySem.F (plainAttrs_str slot_str_split type_str_split slot_str_join type_str_join plainAttrs_list slot_list_extend type_list_extend)
open PyProof.Rows (boot_list boot_sorted boot_isinstance boot_min)
theorem Z0 {p : Prop} (h : p := by decide) : p := h
theorem Z1 {p : Prop} (h : p := by omega) : p := h
theorem Z2 {p : Prop} (h : p := by simp) : p := h
theorem Z3 {p : Prop} (h : p := by rfl) : p := h
theorem Z4 {p : Prop} (h : p := by decide +kernel) : p := h
theorem Z5 {p : Prop} (h : p := by kernel_rfl) : p := h
theorem Z6 {p : Prop} (h : p := by simp; omega) : p := h
theorem Z7 {p : Prop} (h : p := by intro z; cases z) : p := h
namespace L2
open PySem PySem.Spec PyProof.Rows
abbrev Key := Sum Int Str
def tZ : Key -> Value -> Bool
 | .inl k, v => Value.isInt k v
 | .inr x, v => Value.isStrOf x v
def Tv (w : World) : Key -> Int
 | .inl k => hashInt k
 | .inr x => hashStr w x
theorem bK : ∀ {k : Key} {v : Value}, tZ k v = true -> (∃ i t, k = Sum.inl i /\ v = Value.int i t) \/ (∃ x t, k = Sum.inr x /\ v = Value.str x t)
 | .inl i, v, h => by
  obtain ⟨t, e⟩ := Value.isInt_shape (k := i) (v := v) h
  exact .inl ⟨i, t, rfl, e⟩
 | .inr x, v, h => by
  obtain ⟨t, e⟩ := Value.isStrOf_shape (x := x) (v := v) h
  exact .inr ⟨x, t, rfl, e⟩
theorem BP (i : Int) (t : Tok) : tZ (.inl i) (.int i t) = true := by simp [tZ, Value.isInt]
theorem Bx (x : Str) (t : Tok) : tZ (.inr x) (.str x t) = true := by simp [tZ, Value.isStrOf]
theorem Je (a b : Int) : decide ((Sum.inl a : Key) = Sum.inl b) = (a == b) := by
 by_cases e : a = b
 ·subst e; simp
 ·have h : ¬ (Sum.inl a : Key) = Sum.inl b := fun q => e (Sum.inl.inj q)
  rw [decide_eq_false h]
  exact (beq_eq_false_iff_ne.mpr e).symm
theorem Jh (a b : Str) : decide ((Sum.inr a : Key) = Sum.inr b) = decide (a = b) := by
 by_cases e : a = b
 ·subst e; simp
 ·have h : ¬ (Sum.inr a : Key) = Sum.inr b := fun q => e (Sum.inr.inj q)
  rw [decide_eq_false h, decide_eq_false e]
theorem Hx (a : Int) (b : Str) : decide ((Sum.inl a : Key) = Sum.inr b) = false := decide_eq_false (fun q => nomatch q)
theorem Ih (a : Str) (b : Int) : decide ((Sum.inr a : Key) = Sum.inl b) = false := decide_eq_false (fun q => nomatch q)
def bQ (prog : Program) (w : World) : PySem.KeyKind prog w Key where
 is := tZ
 hash := Tv w
 inj := fun v a b ha hb => by
  rcases bK ha with ⟨i, t, rfl, rfl⟩ | ⟨x, t, rfl, rfl⟩
  ·rcases bK hb with ⟨j, u, rfl, e⟩ | ⟨y, u, rfl, e⟩
   ·injection e with e1 _; rw [e1]
   ·exact nomatch e
  ·rcases bK hb with ⟨j, u, rfl, e⟩ | ⟨y, u, rfl, e⟩
   ·exact nomatch e
   ·injection e with e1 _; rw [e1]
 byValue := fun k v h => by
  rcases bK h with ⟨i, t, rfl, rfl⟩ | ⟨x, t, rfl, rfl⟩ <;> rfl
 pyHash := fun hv h => by
  rcases bK hv with ⟨i, t, rfl, rfl⟩ | ⟨x, t, rfl, rfl⟩
  ·exact wpAny_pyHash_int h
  ·exact wpAny_pyHash_str h
 eqBool := fun hu hv h => by
  rcases bK hu with ⟨i, t, rfl, rfl⟩ | ⟨x, t, rfl, rfl⟩
  ·rcases bK hv with ⟨j, u, rfl, rfl⟩ | ⟨y, u, rfl, rfl⟩
   ·rw [Je] at h; exact wpAny_eqBool_int h
   ·rw [Hx] at h; exact SeqAt.EqAt.int_str i t y u _ _ _ _ h
  ·rcases bK hv with ⟨j, u, rfl, rfl⟩ | ⟨y, u, rfl, rfl⟩
   ·rw [Ih] at h; exact SeqAt.EqAt.str_int x t j u _ _ _ _ h
   ·rw [Jh] at h; exact wpAny_eqBool_str h
 «strs» := fun k x t v h => by
  rcases bK h with ⟨i, u, rfl, e⟩ | ⟨y, u, rfl, e⟩
  ·exact nomatch e
  ·injection e with e1 _
   subst e1
   cases v <;> rfl
theorem wF (prog : Program) (w : World) (i : Int) (t : Tok) : (bQ prog w).is (.inl i) (.int i t) = true := BP i t
theorem wY (prog : Program) (w : World) (x : Str) (t : Tok) : (bQ prog w).is (.inr x) (.str x t) = true := Bx x t
inductive V where
 | non | bl (b : Bool) | int (i : Int) | str (x : Str) | byt (b : Array UInt8) | flt (b : UInt64) | ref (a : Addr) | ty (n : String)
 deriving DecidableEq
def RelV : V -> Value -> Prop
 | .non, u => u = Value.none
 | .bl b, u => u = Value.bool b
 | .int i, u => ∃ t, u = Value.int i t
 | .str x, u => ∃ t, u = Value.str x t
 | .byt b, u => ∃ t, u = Value.bytes b t
 | .flt b, u => ∃ t, u = Value.float b t
 | .ref a, u => u = Value.ref a
 | .ty n, u => u = Value.type n
abbrev Vals : List V -> List Value -> Prop := Paired RelV
theorem Vals.length {xs : List V} {us : List Value} (r : Vals xs us) : xs.length = us.length := Paired.length r
theorem Vals.get : ∀ {xs : List V} {us : List Value} {i : Nat} {x : V}, Vals xs us -> xs[i]? = some x -> ∃ u, us[i]? = some u /\ RelV x u
 | _, _, _, _, .nil, e => by simp at e
 | _, _, 0, _, .cons r _, e => by simp at e; subst e; exact ⟨_, rfl, r⟩
 | _, _, i + 1, x, .cons _ t, e => by
  obtain ⟨u, h1, h2⟩ := Vals.get (i := i) (x := x) t (by simpa using e)
  exact ⟨u, by simpa using h1, h2⟩
theorem Vals.append : ∀ {xs ys : List V} {us ws : List Value}, Vals xs us -> Vals ys ws -> Vals (xs ++ ys) (us ++ ws)
 | _, _, _, _, .nil, s => s
 | _, _, _, _, .cons r t, s => .cons r (Vals.append t s)
theorem Vals.take : ∀ {xs : List V} {us : List Value} (n : Nat), Vals xs us -> Vals (xs.take n) (us.take n)
 | _, _, 0, _ => .nil
 | _, _, _ + 1, .nil => .nil
 | _, _, n + 1, .cons r t => .cons r (Vals.take n t)
theorem Vals.drop : ∀ {xs : List V} {us : List Value} (n : Nat), Vals xs us -> Vals (xs.drop n) (us.drop n)
 | _, _, 0, r => r
 | _, _, _ + 1, .nil => .nil
 | _, _, n + 1, .cons _ t => Vals.drop n t
def jF : Option V -> Option Value -> Prop
 | some v, some u => RelV v u
 | none, none => True
 | _, _ => False
def KV {κ : Type} : List (κ × V) -> List (κ × Value) -> Prop := Paired fun (p : κ × V) (q : κ × Value) => p.1 = q.1 /\ RelV p.2 q.2
def kV : Key -> V
 | .inl i => .int i
 | .inr x => .str x
inductive HO where
 | lst (xs : List V)
 | tup (xs : List V)
 | dK (kvs : List (Key × V)) | dT (kvs : List (List Key × V))
 | set (S : Int -> Bool) (n : Nat)
 | ins (C dx : Addr) (fs : List (Str × V))
 | own (x : Addr)
 | xd (fs : List (Str × V))
 | met (f x : Addr)
 | rng (lo hi : Int)
 | frz (o : Obj) (u : HO)
 | tbl (ps : Array Value)
 | ext (φ : Heap -> Prop)
abbrev Hp := Addr -> Option HO
def upd (H : Hp) (a : Addr) (o : HO) : Hp := fun b => if b = a then some o else H b
theorem ak {H : Hp} {a : Addr} {o : HO} : upd H a o a = some o := by unfold upd; rw [if_pos rfl]
theorem aF {H : Hp} {a b : Addr} {o : HO} (h : b ≠ a) : upd H a o b = H b := by unfold upd; rw [if_neg h]
theorem kI {H : Hp} {a b : Addr} {o u : HO} (h : H a = some o) (h' : H b = some u) (d : o ≠ u) : a ≠ b := by
 intro e; subst e; rw [h] at h'; exact d (Option.some.inj h')
theorem aD {H : Hp} {a b : Addr} {o : HO} (h : H a = some o) (h' : H b = none) : a ≠ b := by
 intro e; subst e; rw [h] at h'; cases h'
section
variable (P : Program) (w : World)
def bF (H : Hp) (h : Heap) (a : Addr) : HO -> Prop
 | .lst xs => xs.length <= sizeLine /\ ∃ (its : List Value) (n : Nat), Vals xs its /\ h.get? a = some { cls := .type "list", data := .seq its.toArray n }
 | .tup xs => xs.length <= sizeLine /\ ∃ its : List Value, Vals xs its /\ IsTup h a its.toArray
 | .dK kvs => kvs.length <= sizeLine /\ (a == sysModules) = false /\ ∃ vs, KV kvs vs /\ h.DictOf (bQ P w) a vs
 | .dT kvs => kvs.length <= sizeLine /\ (a == sysModules) = false /\ ∃ xs : List (List Key × Addr × Value),
   Paired (fun (p : List Key × V) (q : List Key × Addr × Value) => p.1 = q.1 /\ H q.2.1 = some (.tup (p.1.map kV)) /\ RelV p.2 q.2.2) kvs xs /\
   ∃ o es ep, h.get? a = some o /\ o.ExactDict /\ o.data = .dict es ep /\ es.toList = xs.map (entryOfKey (tupleKind (bQ P w))) /\ (xs.map (·.1)).Nodup
 | .set S n => h.SetOf (intKind P w) a S n
 | .ins C dx fs => H dx = some (.own a) /\ fs.length <= 1000 /\ dx ≠ a /\ h.get? a = some (instObj C dx) /\
   ∃ mA, h.Ns1 dx mA /\ (∀ f, jF (fs.lookup f) (mA f)) /\ PySem.Within mA (fs.map (·.1))
 | .own _ => ∃ o, h.get? a = some o
 | .xd fs => ∃ mA, h.Ns1 a mA /\ ∀ f, jF (fs.lookup f) (mA f)
 | .rng lo hi => ∃ t u v, h.get? a = some { cls := .type "range", data := .fields #[.int lo t, .int hi u, .int 1 v] }
 | .frz o u => h.get? a = some o /\ bF H h a u
 | .tbl ps => h.get? a = some { cls := .none, data := .fields ps }
 | .met f x => h.get? a = some (methodObj (.ref f) (.ref x))
 | .ext φ => φ h /\ (∃ o, h.get? a = some o) /\ ∀ h1 h2 : Heap, φ h1 -> (∀ o, h1.get? a = some o -> h2.get? a = some o) -> φ h2
def HOk (H : Hp) (h : Heap) : Prop := ∀ a o, H a = some o -> bF P w H h a o
end
section
variable {P : Program} {w : World} {H H' : Hp} {h h' : Heap} {a : Addr} {o : HO}
theorem bF.lt (x : bF P w H h a o) : a < h.objs.size := by
 cases o with
 | lst xs => obtain ⟨_, _, _, _, e⟩ := x; exact Heap.lt_size e
 | tup xs => obtain ⟨_, _, _, p⟩ := x; exact p.lt
 | dK kvs => obtain ⟨_, _, _, _, o, _, _, e, _⟩ := x; exact Heap.lt_size e
 | dT kvs => obtain ⟨_, _, _, _, o, _, _, e, _⟩ := x; exact Heap.lt_size e
 | set S n => obtain ⟨o, _, _, _, e, _⟩ := x; exact Heap.lt_size e
 | ins C dx fs => obtain ⟨_, _, _, e, _⟩ := x; exact Heap.lt_size e
 | own y => obtain ⟨_, e⟩ := x; exact Heap.lt_size e
 | xd fs => obtain ⟨_, ⟨_, _, _, e, _⟩, _⟩ := x; exact Heap.lt_size e
 | rng lo hi => obtain ⟨_, _, _, e⟩ := x; exact Heap.lt_size e
 | frz ob u => obtain ⟨e, _⟩ := x; exact Heap.lt_size e
 | tbl ps => exact Heap.lt_size (show h.get? a = some _ from x)
 | met f y => exact Heap.lt_size (show h.get? a = some _ from x)
 | ext φ => obtain ⟨_, ⟨_, e⟩, _⟩ := x; exact Heap.lt_size e
theorem Paired.mapP {α β : Type} {F G : α -> β -> Prop} : ∀ {l₁ : List α} {l₂ : List β}, Paired F l₁ l₂ -> (∀ a b, F a b -> G a b) -> Paired G l₁ l₂
 | _, _, .nil, _ => .nil
 | _, _, .cons r t, f => .cons (f _ _ r) (Paired.mapP t f)
theorem bF.stay (x : bF P w H h a o) (k : ∀ b u, (b = a \/ H b = some (.own a)) -> h.get? b = some u -> h'.get? b = some u)
  (ho : ∀ b, H b = some (.own a) -> H' b = some (.own a)) (ht : ∀ b xs, H b = some (.tup xs) -> H' b = some (.tup xs)) : bF P w H' h' a o := by
 induction o with
 | lst xs => obtain ⟨z, its, n, r, e⟩ := x; exact ⟨z, its, n, r, k _ _ (.inl rfl) e⟩
 | tup xs => obtain ⟨z, its, r, ob, e, c⟩ := x; exact ⟨z, its, r, ob, k _ _ (.inl rfl) e, c⟩
 | dK kvs => obtain ⟨z, y, vs, r, ob, es, ep, e, c⟩ := x; exact ⟨z, y, vs, r, ob, es, ep, k _ _ (.inl rfl) e, c⟩
 | dT kvs =>
  obtain ⟨z, y, xs, r, ob, es, ep, e, c⟩ := x
  exact ⟨z, y, xs, Paired.mapP r fun p q z => ⟨z.1, ht _ _ z.2.1, z.2.2⟩, ob, es, ep, k _ _ (.inl rfl) e, c⟩
 | set S n => obtain ⟨ob, es, ep, t, e, c⟩ := x; exact ⟨ob, es, ep, t, k _ _ (.inl rfl) e, c⟩
 | ins C dx fs =>
  obtain ⟨d, z, ne, e, mA, ⟨od, es, ep, e2, c⟩, r⟩ := x
  exact ⟨ho _ d, z, ne, k _ _ (.inl rfl) e, mA, ⟨od, es, ep, k _ _ (.inr d) e2, c⟩, r⟩
 | own y => obtain ⟨ob, e⟩ := x; exact ⟨ob, k _ _ (.inl rfl) e⟩
 | xd fs => obtain ⟨mA, ⟨od, es, ep, e, c⟩, r⟩ := x; exact ⟨mA, ⟨od, es, ep, k _ _ (.inl rfl) e, c⟩, r⟩
 | rng lo hi => obtain ⟨t, u, v, e⟩ := x; exact ⟨t, u, v, k _ _ (.inl rfl) e⟩
 | frz ob u ih => obtain ⟨e, q⟩ := x; exact ⟨k _ _ (.inl rfl) e, ih q⟩
 | tbl ps =>
  have e : h.get? a = some { cls := .none, data := .fields ps } := x
  show h'.get? a = some { cls := .none, data := .fields ps }
  exact k a _ (.inl rfl) e
 | met f y =>
  have e : h.get? a = some (methodObj (.ref f) (.ref y)) := x
  show h'.get? a = some (methodObj (.ref f) (.ref y))
  exact k a _ (.inl rfl) e
 | ext φ => obtain ⟨p, ⟨o, e⟩, st⟩ := x; exact ⟨st _ _ p fun o q => k _ _ (.inl rfl) q, ⟨o, k _ _ (.inl rfl) e⟩, st⟩
theorem HOk.lt (x : HOk P w H h) (e : H a = some o) : a < h.objs.size := (x a o e).lt
theorem HOk.fresh (x : HOk P w H h) (e : h.objs.size <= a) : H a = none := by
 cases q : H a with
 | none => rfl
 | some u => exact absurd (lt_of_lt_of_le (x.lt q) e) (lt_irrefl _)
theorem HOk.kept (x : HOk P w H h) (k : ∀ b u, h.get? b = some u -> h'.get? b = some u) : HOk P w H h' := fun a o e =>
 (x a o e).stay (fun b u _ q => k b u q) (fun _ q => q) fun _ _ q => q
theorem HOk.laid (x : HOk P w H h) (k : ∀ b u, h.get? b = some u -> h'.get? b = some u) (hp : h.objs.size <= a) (new : bF P w (upd H a o) h' a o) : HOk P w (upd H a o) h' := fun b u e => by
 have hn := x.fresh hp
 by_cases hb : b = a
 ·subst hb; rw [ak] at e; cases e; exact new
 ·rw [aF hb] at e
  exact (x b u e).stay (fun c v _ q => k c v q) (fun c q => by rw [aF (aD q hn)]; exact q) fun c xs q => by rw [aF (aD q hn)]; exact q
end
def Rd (H : Hp) (a : Addr) (u : HO) : Prop := H a = some u \/ ∃ o, H a = some (.frz o u)
theorem Rd.ok {P : Program} {w : World} {H : Hp} {h : Heap} {a : Addr} {u : HO} (r : Rd H a u) (x : HOk P w H h) : bF P w H h a u := by
 rcases r with r | ⟨o, r⟩
 ·exact x a u r
 ·obtain ⟨_, q⟩ := x a _ r
  exact q
def Mut : Option HO -> Prop
 | some (.lst _) => True
 | some (.dK _) => True
 | some (.dT _) => True
 | some (.set _ _) => True
 | some (.ins _ _ _) => True
 | some (.ext _) => True
 | _ => False
section
variable {P : Program} {w : World} {H : Hp} {h h' : Heap} {x e : Addr} {o' : HO}
theorem HOk.write (ok : HOk P w H h) (mu : Mut (H x)) (he : e = x \/ H e = some (.own x)) (k : ∀ b u, b ≠ e -> h.get? b = some u -> h'.get? b = some u) (heo : ∃ u, h'.get? e = some u)
  (new : bF P w (upd H x o') h' x o') : HOk P w (upd H x o') h' := fun b u q => by
 have nown : ∀ c y, H c = some (.own y) -> c ≠ x := fun c y r z => by subst z; rw [r] at mu; exact mu
 have ntup : ∀ c xs, H c = some (.tup xs) -> c ≠ x := fun c xs r z => by subst z; rw [r] at mu; exact mu
 by_cases hb : b = x
 ·subst hb; rw [ak] at q; cases q; exact new
 ·rw [aF hb] at q
  by_cases hbe : b = e
  ·have q' : H b = some (.own x) := by
    rcases he with z | z
    ·exact absurd (hbe.trans z) hb
    ·rw [hbe]; exact z
   rw [q] at q'; cases q'
   obtain ⟨v, hv⟩ := heo
   exact ⟨v, by rw [hbe]; exact hv⟩
  ·refine (ok b u q).stay (fun c v hc r => k c v ?_ r) (fun c r => by rw [aF (nown c b r)]; exact r) fun c xs r => by rw [aF (ntup c xs r)]; exact r
   rcases hc with rfl | hc
   ·exact hbe
   ·rintro rfl
    rcases he with z | z
    ·exact nown c b hc z
    ·rw [hc] at z; cases z; exact hb rfl
end
structure Un (fs ex : List Addr) (H H' : Hp) (h h' : Heap) : Prop where
 keep : ∀ b o, h.get? b = some o -> H b = none -> b ∉ fs -> b ∉ ex -> h'.get? b = some o
 slot : ∀ b o, h.get? b = some o -> H b = none -> b ∈ fs -> b ∉ ex -> ∃ sl, h'.get? b = some { o with slots := sl }
 free : ∀ b o, h.get? b = some o -> H b = none -> b ∉ ex -> H' b = none
 there : ∀ b o, h.get? b = some o -> b ∉ ex -> ∃ o', h'.get? b = some o'
 tups : ∀ b xs, H b = some (.tup xs) -> H' b = some (.tup xs)
 frzs : ∀ b o u, H b = some (.frz o u) -> H' b = some (.frz o u)
 tbls : ∀ b ps, H b = some (.tbl ps) -> ∃ more, H' b = some (.tbl (ps ++ more))
section
variable {fs fs' ex ex' : List Addr} {H H1 H2 : Hp} {h h1 h2 h' : Heap} {a x e : Addr} {o : HO}
theorem Un.any (u : Un fs ex H H1 h h1) {b : Addr} {ob : Obj} (q : h.get? b = some ob) (n : H b = none) (hx : b ∉ ex) : ∃ sl, h1.get? b = some { ob with slots := sl } := by
 by_cases hb : b ∈ fs
 ·exact u.slot b ob q n hb hx
 ·exact ⟨ob.slots, u.keep b ob q n hb hx⟩
theorem Un.kept (k : ∀ b u, h.get? b = some u -> h'.get? b = some u) : Un fs ex H H h h' :=
 ⟨fun b ob q _ _ _ => k b ob q, fun b ob q _ _ _ => ⟨ob.slots, k b ob q⟩, fun _ _ _ n _ => n, fun b ob q _ => ⟨ob, k b ob q⟩, fun _ _ q => q, fun _ _ _ q => q, fun _ ps q => ⟨#[], by rw [q]; simp⟩⟩
theorem Un.refl : Un fs ex H H h h := Un.kept fun _ _ q => q
theorem Un.laid (k : ∀ b u, h.get? b = some u -> h'.get? b = some u) (hp : h.objs.size <= a) (hn : H a = none) : Un fs ex H (upd H a o) h h' where
 keep := fun b u q _ _ _ => k b u q
 slot := fun b u q _ _ _ => ⟨u.slots, k b u q⟩
 free := fun b u q n _ => by rw [aF (ne_of_lt (lt_of_lt_of_le (Heap.lt_size q) hp))]; exact n
 there := fun b u q _ => ⟨u, k b u q⟩
 tups := fun b xs q => by rw [aF (aD q hn)]; exact q
 frzs := fun b u xs q => by rw [aF (aD q hn)]; exact q
 tbls := fun b ps q => ⟨#[], by rw [aF (aD q hn), q]; simp⟩
theorem Un.write (mu : Mut (H x)) (he : e = x \/ H e = some (.own x)) (k : ∀ b u, b ≠ e -> h.get? b = some u -> h'.get? b = some u) (heo : ∃ u, h'.get? e = some u) : Un fs ex H (upd H x o) h h' := by
 have hx : ∀ b, H b = none -> b ≠ x := fun b n z => by subst z; rw [n] at mu; exact mu
 have hb : ∀ b, H b = none -> b ≠ e := fun b n z => by
  subst z
  rcases he with r | r
  ·exact hx b n r
  ·rw [n] at r; cases r
 have hm : ∀ b u, H b = some u -> ¬ Mut (some u) -> b ≠ x := fun b u q nm z => by subst z; rw [q] at mu; exact nm mu
 refine ⟨fun b u q n _ _ => k b u (hb b n) q, fun b u q n _ _ => ⟨u.slots, k b u (hb b n) q⟩, fun b u q n _ => by rw [aF (hx b n)]; exact n, fun b u q _ => ?_,
  fun b xs q => by rw [aF (hm b _ q fun z => z)]; exact q, fun b u xs q => by rw [aF (hm b _ q fun z => z)]; exact q, fun b ps q => ⟨#[], by rw [aF (hm b _ q fun z => z), q]; simp⟩⟩
 by_cases hbe : b = e
 ·subst hbe; exact heo
 ·exact ⟨u, k b u hbe q⟩
end
def trk (h : Heap) (H : Hp) : List Addr := (List.range h.objs.size).filter fun a => (H a).isSome
def vC (h : Heap) (H : Hp) : Heap := PySem.W.hideAll h (trk h H)
theorem Ak (h : Heap) (H : Hp) : (vC h H).objs.size = h.objs.size := PySem.W.hideAll_size _ _
theorem Eu {h : Heap} {H : Hp} {b : Addr} {o : Obj} (e : h.get? b = some o) (n : H b = none) : (vC h H).get? b = some o :=
 PySem.W.hideAll_get _ e fun hm => by
  have q : (H b).isSome = true := (mem_filter.mp hm).2
  rw [n] at q; simp at q
theorem Gd {h : Heap} {H : Hp} {b : Addr} {o : Obj} (e : (vC h H).get? b = some o) : h.get? b = some o /\ H b = none := by
 have e' : h.get? b = some o := PySem.W.of_hideAll (trk h H) e
 refine ⟨e', ?_⟩
 cases q : H b with
 | none => rfl
 | some x =>
  have hm : b ∈ trk h H := mem_filter.mpr ⟨mem_range.mpr (Heap.lt_size e'), by simp [q]⟩
  have z : (vC h H).get? b = none := PySem.W.hideAll_none (trk h H) hm
  rw [z] at e; cases e
structure Mod (K : Frag) (mg : Str -> Option Value) (base : Heap) : Prop where
 kin : K.In base
 glob : base.Ns mainGlobals mg
 blt : ∃ mb, base.Ns builtinsNs mb /\ ∀ x : Str, x ≠ "__name__" -> mb x = bootBuiltins x
 nolimit : base.NoLimit
structure Cx where
 prog : Program
 w : World
 K : Frag
 mg : Str -> Option Value
 base : Heap
 A : Around
 N : List Str
 s₀ : Shared
 H₀ : Hp
 env : Env
 outer : List Env
 stack : List Env
 ex : List Addr
 fn : Str -> Bool
 calm : Bool
 pn : List (Addr × Obj)
 xe : Value -> Shared -> Prop
def frs (l : List Env) : List Addr := l.filterMap (·.frame)
abbrev Cx.fs (X : Cx) : List Addr := frs X.outer
def Vis (sc : Scope) (x : Str) : Prop := sc.names.lookup x = some .local \/ sc.names.lookup x = some .cell \/ sc.names.lookup x = some .free
def Loc (sc : Scope) (x : Str) : Prop := sc.names.lookup x = some .local \/ sc.names.lookup x = some .cell
def Look (env : Env) (h : Heap) (m : Str -> Option Value) (x : Str) (u : Value) : Prop :=
 (env.kindOf x = some .local /\ m x = some u) \/ ((env.kindOf x = some .cell \/ env.kindOf x = some .free) /\ ∃ c, env.cells.lookup x = some c /\ h.IsCell c (some u))
structure Cx.Ok (X : Cx) : Prop where
 mod : Mod X.K X.mg X.base
 kind : X.env.scope.kind = .function
 glob : X.env.globals = mainGlobals
 blt : X.env.builtins = builtinsNs
 above : X.s₀.heap.objs.size <= X.env.locals
 inj : ∀ x y c, X.env.cells.lookup x = some c -> X.env.cells.lookup y = some c -> x = y
 has : ∀ x, (X.env.kindOf x = some .cell \/ X.env.kindOf x = some .free) -> ∃ c, X.env.cells.lookup x = some c
 cab : ∀ x c, X.fn x = true -> X.env.cells.lookup x = some c -> X.s₀.heap.objs.size <= c
 hd : X.calm = true -> X.A.handled = none
 frames : X.A.frames = some X.stack
 stk : X.stack = X.outer \/ (X.stack = X.env :: X.outer /\ X.env.frame = some X.env.locals)
 exf : ∀ b ∈ X.ex, b ≠ X.env.locals /\ ∀ x c, X.env.cells.lookup x = some c -> c ≠ b
 bs : ∀ b o, X.base.get? b = some o -> X.s₀.heap.get? b = some o /\ X.H₀ b = none
 bsz : X.base.objs.size <= X.s₀.heap.objs.size
 noex : ∀ b o, X.base.get? b = some o -> b ∉ X.ex
 exfs : ∀ b ∈ X.ex, b ∉ X.fs
 funs : X.s₀.heap.FunFrames X.base X.outer
 frf : ∀ b ∈ X.fs, X.H₀ b = none
structure Inv (X : Cx) (pins : List (Addr × Obj)) (σ : List (Option V)) (H : Hp) (s : Shared) : Prop where
 ok : X.Ok
 os : s.os = X.s₀.os
 bare : AllBare s.gens
 base : Un X.fs X.ex X.H₀ H X.s₀.heap s.heap
 loc : ∃ m, s.heap.Ns X.env.locals m /\ ∀ (i : Nat) (x : Str) (v : V), X.N[i]? = some x -> σ[i]? = some (some v) -> Vis X.env.scope x -> ∃ u, RelV v u /\ Look X.env s.heap m x u
 cell : ∀ x c, X.env.cells.lookup x = some c -> ∃ v, s.heap.IsCell c v
 free : H X.env.locals = none
 freeC : ∀ x c, X.env.cells.lookup x = some c -> H c = none
 pin : ∀ p ∈ X.pn ++ pins, s.heap.get? p.1 = some p.2 /\ H p.1 = none /\ p.1 ≠ X.env.locals /\ p.1 ∉ X.fs /\ ∀ v, p.2.data ≠ .cell v
 hok : HOk X.prog X.w H s.heap
 len : σ.length = X.N.length
section
variable {X : Cx} {pins : List (Addr × Obj)} {σ : List (Option V)} {H H' : Hp} {s : Shared} {h' : Heap}
theorem Cx.Ok.nofr (ok : X.Ok) {b : Addr} {o : Obj} (e : X.base.get? b = some o) : b ∉ X.fs := fun hb => by
 have := (ok.funs.mem hb).1
 rw [e] at this; cases this
theorem Inv.bs (I : Inv X pins σ H s) : ∀ b o, X.base.get? b = some o -> s.heap.get? b = some o /\ H b = none := fun b o e =>
 ⟨I.base.keep b o (I.ok.bs b o e).1 (I.ok.bs b o e).2 (I.ok.nofr e) (I.ok.noex b o e), I.base.free b o (I.ok.bs b o e).1 (I.ok.bs b o e).2 (I.ok.noex b o e)⟩
theorem Inv.bk (I : Inv X pins σ H s) : ∀ b o, X.base.get? b = some o -> s.heap.get? b = some o := fun b o e => (I.bs b o e).1
theorem Inv.mod (I : Inv X pins σ H s) : Mod X.K X.mg X.base := I.ok.mod
theorem Inv.kIn (I : Inv X pins σ H s) : X.K.In s.heap := I.ok.mod.kin.keeps I.bk
theorem Inv.lt (I : Inv X pins σ H s) : X.env.locals < s.heap.objs.size := let ⟨_, hn, _⟩ := I.loc; hn.lt
theorem Inv.sz (I : Inv X pins σ H s) : X.s₀.heap.objs.size <= s.heap.objs.size := le_trans I.ok.above (le_of_lt I.lt)
theorem Inv.nofs (I : Inv X pins σ H s) {a : Addr} (h : s.heap.objs.size <= a) : a ∉ X.fs := fun hb => by
 obtain ⟨_, o, ho, _⟩ := I.ok.funs.mem hb
 exact absurd (lt_of_lt_of_le (Heap.lt_size ho) (le_trans I.sz h)) (lt_irrefl _)
theorem Inv.cne (I : Inv X pins σ H s) : ∀ x c, X.env.cells.lookup x = some c -> c ≠ X.env.locals := fun x c e z => by
 obtain ⟨v, o, ho, hd⟩ := I.cell x c e
 obtain ⟨m, ⟨o', es, ep, ho', hd', _⟩, _⟩ := I.loc
 rw [z, ho'] at ho; cases ho; rw [hd'] at hd; cases hd
theorem Inv.funs (I : Inv X pins σ H s) : s.heap.FunFrames X.base X.outer := by
 have all : ∀ (l : List Env), (∀ b ∈ frs l, b ∈ X.fs) -> X.s₀.heap.FunFrames X.base l -> s.heap.FunFrames X.base l := by
  intro l
  induction l with
  | nil => intro _ _; trivial
  | cons env r ih =>
   intro hs hl
   obtain ⟨hk, ⟨L, o, hf, hn, ho, hd⟩, hr⟩ := hl
   have hL : L ∈ X.fs := hs L (by unfold frs; rw [List.filterMap_cons, hf]; exact mem_cons_self)
   obtain ⟨sl, e⟩ := I.base.slot L o ho (I.ok.frf L hL) hL fun z => I.ok.exfs L z hL
   exact ⟨hk, ⟨L, _, hf, hn, e, hd⟩, ih (fun b hb => hs b (by unfold frs; rw [List.filterMap_cons, hf]; exact mem_cons_of_mem _ hb)) hr⟩
 exact all X.outer (fun _ hb => hb) I.ok.funs
theorem Inv.stack (I : Inv X pins σ H s) : s.heap.FunFrames X.base X.stack := by
 rcases I.ok.stk with e | ⟨e, hf⟩
 ·rw [e]; exact I.funs
 ·rw [e]
  obtain ⟨m, hn, _⟩ := I.loc
  refine .cons (by rw [I.ok.kind]; decide) hf hn ?_ I.funs
  exact Heap.get?_none_of_le (le_trans I.ok.bsz I.ok.above)
theorem Inv.stkSub (I : Inv X pins σ H s) : ∀ b ∈ frs X.stack, b ∈ X.env.locals :: X.fs := fun b hb => by
 rcases I.ok.stk with e | ⟨e, hf⟩
 ·rw [e] at hb; exact mem_cons_of_mem _ hb
 ·rw [e] at hb
  unfold frs at hb
  rw [List.filterMap_cons, hf] at hb
  exact hb
theorem Inv.stkFree (I : Inv X pins σ H s) : ∀ b ∈ frs X.stack, H b = none := fun b hb => by
 rcases mem_cons.mp (I.stkSub b hb) with e | hb
 ·rw [e]; exact I.free
 ·obtain ⟨_, o, ho, _⟩ := I.ok.funs.mem hb
  exact I.base.free b o ho (I.ok.frf b hb) fun z => I.ok.exfs b z hb
theorem Inv.step {g' : Array GenState} {t' : Nat} {d' : Drawn} {ch : List Addr} (I : Inv X pins σ H s)
  (hch : ∀ b ∈ ch, (b ∈ X.ex \/ X.s₀.heap.objs.size <= b) /\ b ≠ X.env.locals /\ (∀ x c, X.env.cells.lookup x = some c -> c ≠ b) /\ ∀ p ∈ X.pn ++ pins, p.1 ≠ b)
  (keep : ∀ b o, b ≠ X.env.locals -> b ∉ X.fs -> b ∉ ch -> s.heap.get? b = some o -> H b = none -> h'.get? b = some o)
  (slot : ∀ b o, b ≠ X.env.locals -> b ∈ X.fs -> b ∉ ch -> s.heap.get? b = some o -> H b = none -> ∃ sl, h'.get? b = some { o with slots := sl }) (free : ∀ b o, b ∉ ch -> s.heap.get? b = some o -> H b = none -> H' b = none)
  (there : ∀ b o, b ∉ ch -> s.heap.get? b = some o -> ∃ o', h'.get? b = some o')
  (tups : ∀ b xs, H b = some (.tup xs) -> H' b = some (.tup xs)) (frzs : ∀ b o u, H b = some (.frz o u) -> H' b = some (.frz o u)) (tbls : ∀ b ps, H b = some (.tbl ps) -> ∃ more, H' b = some (.tbl (ps ++ more)))
  (ns : ∀ m, s.heap.Ns X.env.locals m -> h'.Ns X.env.locals m) (hok : HOk X.prog X.w H' h') (hg : AllBare g') :
  Inv X pins σ H' { s with heap := h', gens := g', drawn := d', toks := t' } := by
 have neL : ∀ b o, X.s₀.heap.get? b = some o -> b ≠ X.env.locals := fun b o e => ne_of_lt (lt_of_lt_of_le (Heap.lt_size e) I.ok.above)
 have neC : ∀ b o, X.s₀.heap.get? b = some o -> b ∉ X.ex -> b ∉ ch := fun b o e hx hb => by
  rcases (hch b hb).1 with z | z
  ·exact hx z
  ·exact absurd (lt_of_lt_of_le (Heap.lt_size e) z) (lt_irrefl _)
 have cellK : ∀ x c, X.env.cells.lookup x = some c -> ∀ v, s.heap.IsCell c v -> h'.IsCell c v := fun x c e v ⟨o, ho, hd⟩ => by
  have nch : c ∉ ch := fun z => (hch c z).2.2.1 x c e rfl
  by_cases hc : c ∈ X.fs
  ·obtain ⟨sl, q⟩ := slot c o (I.cne x c e) hc nch ho (I.freeC x c e)
   exact ⟨_, q, hd⟩
  ·exact ⟨o, keep c o (I.cne x c e) hc nch ho (I.freeC x c e), hd⟩
 refine ⟨I.ok, I.os, hg, ⟨fun b o e n hb hx => ?_, fun b o e n hb hx => ?_, fun b o e n hx => ?_, fun b o e hx => ?_, fun b xs e => tups b xs (I.base.tups b xs e), fun b o xs e => frzs b o xs (I.base.frzs b o xs e), fun b ps e => ?_⟩, ?_, fun x c e => ?_, ?_, fun x c e => ?_, fun p hp => ?_, hok, I.len⟩
 ·exact keep b o (neL b o e) hb (neC b o e hx) (I.base.keep b o e n hb hx) (I.base.free b o e n hx)
 ·obtain ⟨sl, e1⟩ := I.base.slot b o e n hb hx
  obtain ⟨sl', e2⟩ := slot b _ (neL b o e) hb (neC b o e hx) e1 (I.base.free b o e n hx)
  exact ⟨sl', e2⟩
 ·obtain ⟨o', e1⟩ := I.base.there b o e hx
  exact free b o' (neC b o e hx) e1 (I.base.free b o e n hx)
 ·obtain ⟨o', e1⟩ := I.base.there b o e hx
  exact there b o' (neC b o e hx) e1
 ·obtain ⟨m1, e1⟩ := I.base.tbls b ps e
  obtain ⟨m2, e2⟩ := tbls b _ e1
  exact ⟨m1 ++ m2, by rw [e2, Array.append_assoc]⟩
 ·obtain ⟨m, hn, hl⟩ := I.loc
  refine ⟨m, ns m hn, fun i x v e1 e2 e3 => ?_⟩
  obtain ⟨u, r, l⟩ := hl i x v e1 e2 e3
  refine ⟨u, r, ?_⟩
  rcases l with l | ⟨k, c, e, z⟩
  ·exact .inl l
  ·exact .inr ⟨k, c, e, cellK x c e _ z⟩
 ·obtain ⟨v, z⟩ := I.cell x c e
  exact ⟨v, cellK x c e v z⟩
 ·obtain ⟨m, ⟨o, _, _, ho, _⟩, _⟩ := I.loc
  exact free _ o (fun z => (hch _ z).2.1 rfl) ho I.free
 ·obtain ⟨v, o, ho, hd⟩ := I.cell x c e
  exact free c o (fun z => (hch c z).2.2.1 x c e rfl) ho (I.freeC x c e)
 ·obtain ⟨e, n, ne, nf, d⟩ := I.pin p hp
  have nch : p.1 ∉ ch := fun z => (hch p.1 z).2.2.2 p hp rfl
  exact ⟨keep p.1 p.2 ne nf nch e n, free p.1 p.2 nch e n, ne, nf, d⟩
theorem Inv.un {t' : Nat} (I : Inv X pins σ H s) (u : Un X.fs [] H H' s.heap h') (hok : HOk X.prog X.w H' h') : Inv X pins σ H' { s with heap := h', toks := t' } := by
 obtain ⟨m, ⟨o, es, ep, ho, r⟩, _⟩ := id I.loc
 obtain ⟨sl, hL⟩ := u.any ho I.free Z2
 exact I.step (g' := s.gens) (d' := s.drawn) (ch := []) (fun _ z => nomatch z) (fun b o _ hb _ e n => u.keep b o e n hb Z2) (fun b o _ hb _ e n => u.slot b o e n hb Z2) (fun b o _ e n => u.free b o e n Z2) (fun b o _ e => u.there b o e Z2) u.tups u.frzs u.tbls (fun m' hm => by
  obtain ⟨o', es', ep', ho', r'⟩ := hm
  rw [ho] at ho'; cases ho'
  exact ⟨_, es', ep', hL, r'⟩) hok I.bare
theorem Inv.call {g' : Array GenState} {t' : Nat} {d' : Drawn} {ch : List Addr} (I : Inv X pins σ H s) (u : Un (frs X.stack) ch H H' s.heap h') (hok : HOk X.prog X.w H' h') (hg : AllBare g')
  (hch : ∀ b ∈ ch, (b ∈ X.ex \/ X.s₀.heap.objs.size <= b) /\ b ≠ X.env.locals /\ (∀ x c, X.env.cells.lookup x = some c -> c ≠ b) /\ ∀ p ∈ X.pn ++ pins, p.1 ≠ b) :
  Inv X pins σ H' { s with heap := h', gens := g', drawn := d', toks := t' } := by
 obtain ⟨m, ⟨o, es, ep, ho, r⟩, _⟩ := id I.loc
 obtain ⟨sl, hL⟩ := u.any ho I.free fun z => (hch _ z).2.1 rfl
 exact I.step (ch := ch) hch (fun b o hL hb hc e n => u.keep b o e n (fun z => (mem_cons.mp (I.stkSub b z)).elim hL hb) hc) (fun b o _ _ hc e n => u.any e n hc) (fun b o hc e n => u.free b o e n hc) (fun b o hc e => u.there b o e hc) u.tups u.frzs u.tbls (fun m' hm => by
  obtain ⟨o', es', ep', ho', r'⟩ := hm
  rw [ho] at ho'; cases ho'
  exact ⟨_, es', ep', hL, r'⟩) hok hg
theorem Inv.turned {t' : Nat} {it : Addr} (I : Inv X pins σ H s) (k : ∀ b o, b ≠ it -> s.heap.get? b = some o -> h'.get? b = some o) (hn : H it = none) (hL : it ≠ X.env.locals)
  (h1 : it ∈ X.ex \/ X.s₀.heap.objs.size <= it) (h2 : ∀ x c, X.env.cells.lookup x = some c -> c ≠ it) (h3 : ∀ p ∈ X.pn ++ pins, p.1 ≠ it) : Inv X pins σ H { s with heap := h', toks := t' } := by
 have nit : ∀ b u, H b = some u -> b ≠ it := fun b u e z => by rw [z, hn] at e; cases e
 refine I.step (g' := s.gens) (d' := s.drawn) (ch := [it]) (fun b hb => ?_) (fun b o _ _ hc e _ => k b o (fun z => hc (by simp [z])) e) (fun b o _ _ hc e _ => ⟨o.slots, k b o (fun z => hc (by simp [z])) e⟩) (fun _ _ _ _ n => n)
  (fun b o hc e => ⟨o, k b o (fun z => hc (by simp [z])) e⟩) (fun _ _ e => e) (fun _ _ _ e => e) (fun b ps e => ⟨#[], by rw [e]; simp⟩) (fun m hm => ?_) (fun b u e => ?_) I.bare
 ·have e : b = it := by simpa using hb
  subst e
  exact ⟨h1, hL, h2, h3⟩
 ·obtain ⟨o, es, ep, ho, r⟩ := hm
  exact ⟨o, es, ep, k _ o (Ne.symm hL) ho, r⟩
 ·refine (I.hok b u e).stay (fun c v hc q => k c v ?_ q) (fun _ q => q) fun _ _ q => q
  rcases hc with z | z
  ·rw [z]; exact nit b u e
  ·exact nit c _ z
theorem Inv.tok (I : Inv X pins σ H s) (t : Nat) : Inv X pins σ H { s with toks := t } := I.un (h' := s.heap) (t' := t) Un.refl I.hok
theorem Inv.kept {t' : Nat} (I : Inv X pins σ H s) (k : ∀ b u, s.heap.get? b = some u -> h'.get? b = some u) : Inv X pins σ H { s with heap := h', toks := t' } := I.un (Un.kept k) (I.hok.kept k)
theorem Inv.laid {a : Addr} {o : HO} {t' : Nat} (I : Inv X pins σ H s) (k : ∀ b u, s.heap.get? b = some u -> h'.get? b = some u) (hp : s.heap.objs.size <= a) (new : bF X.prog X.w (upd H a o) h' a o) :
  Inv X pins σ (upd H a o) { s with heap := h', toks := t' } := I.un (Un.laid k hp (I.hok.fresh hp)) (I.hok.laid k hp new)
theorem Inv.write {x e : Addr} {o : HO} {t' : Nat} (I : Inv X pins σ H s) (mu : Mut (H x)) (he : e = x \/ H e = some (.own x)) (k : ∀ b u, b ≠ e -> s.heap.get? b = some u -> h'.get? b = some u) (heo : ∃ u, h'.get? e = some u)
  (new : bF X.prog X.w (upd H x o) h' x o) : Inv X pins σ (upd H x o) { s with heap := h', toks := t' } := I.un (Un.write mu he k heo) (I.hok.write mu he k heo new)
theorem Inv.pins_of {pins' : List (Addr × Obj)} (I : Inv X pins σ H s) (h : ∀ p ∈ pins', s.heap.get? p.1 = some p.2 /\ H p.1 = none /\ p.1 ≠ X.env.locals /\ p.1 ∉ X.fs /\ ∀ v, p.2.data ≠ .cell v) : Inv X pins' σ H s :=
 ⟨I.ok, I.os, I.bare, I.base, I.loc, I.cell, I.free, I.freeC, fun p hp => (mem_append.mp hp).elim (fun z => I.pin p (mem_append_left _ z)) (h p), I.hok, I.len⟩
theorem xM {N : List Str} (hN : N.Nodup) {i j : Nat} {x : Str} (a : N[i]? = some x) (b : N[j]? = some x) : i = j := by
 obtain ⟨h1, e1⟩ := List.getElem?_eq_some_iff.mp a
 obtain ⟨h2, e2⟩ := List.getElem?_eq_some_iff.mp b
 exact (List.getElem_inj hN).mp (e1.trans e2.symm)
theorem uw {M : Model} {A : Around} {E : Value -> Shared -> Prop} {i : Nat} {x : Str} {v : V} {u : Value} {Q : Unit -> Shared -> Prop} (I : Inv X pins σ H s) (hN : X.N.Nodup) (hi : X.N[i]? = some x) (hx : Loc X.env.scope x) (r : RelV v u)
  (h : ∀ s', Inv X pins (σ.set i (some v)) H s' -> (∃ a, Heap.SameBut a s.heap s'.heap /\ (a = X.env.locals \/ X.env.cells.lookup x = some a)) -> Q () s') (hf : X.fn x = true \/ X.env.scope.names.lookup x = some .local := by first | exact .inl rfl | exact .inr rfl | assumption) : wpAny M A (storeName X.env x u) Q E s := by
 obtain ⟨m, hn, hl⟩ := id I.loc
 have hcls : (X.env.scope.kind == .class || (X.env.scope.kind == .module && X.env.locals != X.env.globals)) = false := by rw [I.ok.kind]; rfl
 have hiσ : i < σ.length := by rw [I.len]; exact (List.getElem?_eq_some_iff.mp hi).1
 have cne := I.cne
 have tracked : ∀ {a : Addr} {h' : Heap}, (∃ o, s.heap.get? a = some o /\ H a = none) -> Heap.SameBut a s.heap h' -> HOk X.prog X.w H h' := fun {a h'} ha hs b ob e => by
  obtain ⟨_, _, hfree⟩ := ha
  refine (I.hok b ob e).stay (fun c w' hc q => (hs.2 c ?_).trans q) (fun _ q => q) fun _ _ q => q
  rintro rfl
  rcases hc with rfl | hc
  ·rw [hfree] at e; cases e
  ·rw [hfree] at hc; cases hc
 rcases hx with hk | hk
 ·refine wpAny_storeName_local hk hn (fun h' hn' hs => ?_) hcls
  obtain ⟨oL, _, _, hoL, _⟩ := id hn
  refine h _ ⟨I.ok, I.os, I.bare, ⟨fun b o e n hb hx => ?_, fun b o e n hb hx => ?_, I.base.free, fun b o e hx => ?_, I.base.tups, I.base.frzs, I.base.tbls⟩, ⟨_, hn', fun j y v' e1 e2 e3 => ?_⟩, fun y c e => ?_, I.free, I.freeC, fun p hp => ?_, tracked ⟨oL, hoL, I.free⟩ hs, by simpa using I.len⟩ ⟨_, hs, .inl rfl⟩
  ·exact (hs.2 b (ne_of_lt (lt_of_lt_of_le (Heap.lt_size e) I.ok.above))).trans (I.base.keep b o e n hb hx)
  ·obtain ⟨sl, e1⟩ := I.base.slot b o e n hb hx
   exact ⟨sl, (hs.2 b (ne_of_lt (lt_of_lt_of_le (Heap.lt_size e) I.ok.above))).trans e1⟩
  ·obtain ⟨o', e1⟩ := I.base.there b o e hx
   exact ⟨o', (hs.2 b (ne_of_lt (lt_of_lt_of_le (Heap.lt_size e) I.ok.above))).trans e1⟩
  ·by_cases hj : j = i
   ·subst hj
    rw [hi] at e1; cases e1
    rw [List.getElem?_set_self hiσ] at e2
    cases e2
    exact ⟨u, r, .inl ⟨hk, Z2⟩⟩
   ·rw [List.getElem?_set_ne (Ne.symm hj)] at e2
    obtain ⟨u', r', q⟩ := hl j y v' e1 e2 e3
    refine ⟨u', r', ?_⟩
    rcases q with ⟨k, e⟩ | ⟨k, c, e, z⟩
    ·refine .inl ⟨k, ?_⟩
     have : y ≠ x := fun e => hj (xM hN e1 (e ▸ hi))
     simp [this, e]
    ·exact .inr ⟨k, c, e, z.sameBut hs (cne y c e)⟩
  ·obtain ⟨w', z⟩ := I.cell y c e
   exact ⟨w', z.sameBut hs (cne y c e)⟩
  ·obtain ⟨e, n, ne, nf, d⟩ := I.pin p hp
   exact ⟨(hs.2 p.1 ne).trans e, n, ne, nf, d⟩
 ·have hfn : X.fn x = true := by
   rcases hf with z | z
   ·exact z
   ·rw [z] at hk; cases hk
  obtain ⟨c, hc⟩ := I.ok.has x (.inl hk)
  obtain ⟨w', z⟩ := I.cell x c hc
  refine wpAny_storeName_cell I.ok.kind hk hc z (fun h' hc' hs => ?_)
  obtain ⟨oc, hoc, hocd⟩ := id z
  refine h { s with heap := h' } ⟨I.ok, I.os, I.bare, ⟨fun b o e n hb hx => ?_, fun b o e n hb hx => ?_, I.base.free, fun b o e hx => ?_, I.base.tups, I.base.frzs, I.base.tbls⟩, ⟨m, hn.sameBut hs (Ne.symm (cne x c hc)), fun j y v' e1 e2 e3 => ?_⟩, fun y c' e => ?_, I.free, I.freeC, fun p hp => ?_, tracked ⟨oc, hoc, I.freeC x c hc⟩ hs, by simpa using I.len⟩ ⟨c, hs, .inr hc⟩
  ·exact (hs.2 b (ne_of_lt (lt_of_lt_of_le (Heap.lt_size e) (I.ok.cab x c hfn hc)))).trans (I.base.keep b o e n hb hx)
  ·obtain ⟨sl, e1⟩ := I.base.slot b o e n hb hx
   exact ⟨sl, (hs.2 b (ne_of_lt (lt_of_lt_of_le (Heap.lt_size e) (I.ok.cab x c hfn hc)))).trans e1⟩
  ·obtain ⟨o', e1⟩ := I.base.there b o e hx
   exact ⟨o', (hs.2 b (ne_of_lt (lt_of_lt_of_le (Heap.lt_size e) (I.ok.cab x c hfn hc)))).trans e1⟩
  ·by_cases hj : j = i
   ·subst hj
    rw [hi] at e1; cases e1
    rw [List.getElem?_set_self hiσ] at e2
    cases e2
    exact ⟨u, r, .inr ⟨.inl hk, c, hc, hc'⟩⟩
   ·rw [List.getElem?_set_ne (Ne.symm hj)] at e2
    obtain ⟨u', r', q⟩ := hl j y v' e1 e2 e3
    refine ⟨u', r', ?_⟩
    rcases q with q | ⟨k, c', e, z'⟩
    ·exact .inl q
    ·refine .inr ⟨k, c', e, z'.sameBut hs ?_⟩
     rintro rfl
     exact hj (xM hN e1 (I.ok.inj _ _ _ e hc ▸ hi))
  ·by_cases hcc : c' = c
   ·subst hcc; exact ⟨_, hc'⟩
   ·obtain ⟨w2, z2⟩ := I.cell y c' e
    exact ⟨w2, z2.sameBut hs hcc⟩
  ·obtain ⟨e, n, ne, nf, d⟩ := I.pin p hp
   refine ⟨(hs.2 p.1 ?_).trans e, n, ne, nf, d⟩
   intro q
   rw [q, hoc] at e
   have q' : oc = p.2 := Option.some.inj e
   exact d w' (by rw [<- q']; exact hocd)
theorem xP {M : Model} {A : Around} {E : Value -> Shared -> Prop} {i : Nat} {x : Str} {v : V} {u : Value} {Q : Unit -> Shared -> Prop} (I : Inv X pins σ H s) (hN : X.N.Nodup) (hi : X.N[i]? = some x) (hx : Loc X.env.scope x) (r : RelV v u)
  (h : ∀ s', Inv X pins (σ.set i (some v)) H s' -> Q () s') (hf : X.fn x = true \/ X.env.scope.names.lookup x = some .local := by first | exact .inl rfl | exact .inr rfl | assumption) : wpAny M A (storeName X.env x u) Q E s :=
 uw I hN hi hx r (fun s' I' _ => h s' I') hf
theorem Inv.call' {s' : Shared} {ch : List Addr} (I : Inv X pins σ H s) (ho : s'.os = s.os) (u : Un (frs X.stack) ch H H' s.heap s'.heap) (hok : HOk X.prog X.w H' s'.heap) (hg : AllBare s'.gens)
  (hch : ∀ b ∈ ch, (b ∈ X.ex \/ X.s₀.heap.objs.size <= b) /\ b ≠ X.env.locals /\ (∀ x c, X.env.cells.lookup x = some c -> c ≠ b) /\ ∀ p ∈ X.pn ++ pins, p.1 ≠ b) : Inv X pins σ H' s' := by
 obtain ⟨h', g', d', t', o'⟩ := s'
 have e : o' = s.os := ho
 subst e
 exact I.call (g' := g') (t' := t') (d' := d') u hok hg hch
end
abbrev XK := Value -> Option Addr -> Hp -> Prop
abbrev St := List (Option V)
abbrev VK := V -> Hp -> Prop
abbrev TE := St -> Hp -> VK -> Prop
abbrev TT := St -> Hp -> (Bool -> Hp -> Prop) -> Prop
abbrev TA := St -> Hp -> (List V -> Hp -> Prop) -> Prop
structure Ends where
 nx : St -> Hp -> Prop
 rt : VK
 bk : St -> Hp -> Prop := fun _ _ => False
 ct : St -> Hp -> Prop := fun _ _ => False
abbrev TS := Ends -> St -> Hp -> Prop
def EP (X : Cx) (pins : List (Addr × Obj)) (σ : St) (Q : VK) (u : Value) (s' : Shared) : Prop := ∃ v H', Inv X pins σ H' s' /\ RelV v u /\ Q v H'
def TP (X : Cx) (pins : List (Addr × Obj)) (σ : St) (Q : Bool -> Hp -> Prop) (b : Bool) (s' : Shared) : Prop := ∃ H', Inv X pins σ H' s' /\ Q b H'
def AP (X : Cx) (pins : List (Addr × Obj)) (σ : St) (Q : List V -> Hp -> Prop) (us : List Value) (s' : Shared) : Prop := ∃ vs H', Inv X pins σ H' s' /\ Vals vs us /\ Q vs H'
def SP (X : Cx) (pins : List (Addr × Obj)) (D : Ends) (f : Flow) (s' : Shared) : Prop :=
 match f with
 | .next => ∃ σ' H', Inv X pins σ' H' s' /\ D.nx σ' H'
 | .brk => ∃ σ' H', Inv X pins σ' H' s' /\ D.bk σ' H'
 | .cont => ∃ σ' H', Inv X pins σ' H' s' /\ D.ct σ' H'
 | .ret u => ∃ v σ' H', Inv X pins σ' H' s' /\ RelV v u /\ D.rt v H'
def PE (X : Cx) (e : Expr) (t : TE) : Prop :=
 ∀ (pins : List (Addr × Obj)) (s : Shared) (σ : St) (H : Hp) (Q : VK), Inv X pins σ H s -> t σ H Q -> wpAny (model X.prog X.w) X.A (eval e X.env) (EP X pins σ Q) X.xe s
def PT (X : Cx) (e : Expr) (t : TT) : Prop :=
 ∀ (pins : List (Addr × Obj)) (s : Shared) (σ : St) (H : Hp) (Q : Bool -> Hp -> Prop), Inv X pins σ H s -> t σ H Q -> wpAny (model X.prog X.w) X.A (isTrue e X.env (eval e X.env)) (TP X pins σ Q) X.xe s
def PW (X : Cx) (e : Expr) (t : TT) : Prop :=
 ∀ (whole : Sem Value) (pins : List (Addr × Obj)) (s : Shared) (σ : St) (H : Hp) (Q : Bool -> Hp -> Prop), Inv X pins σ H s -> t σ H Q -> wpAny (model X.prog X.w) X.A (isTrue e X.env whole) (TP X pins σ Q) X.xe s
theorem PW.pt {X : Cx} {e : Expr} {t : TT} (h : PW X e t) : PT X e t := h _
def PA (X : Cx) (es : List Expr) (t : TA) : Prop :=
 ∀ (pos : Pos) (pins : List (Addr × Obj)) (s : Shared) (σ : St) (H : Hp) (Q : List V -> Hp -> Prop), Inv X pins σ H s -> t σ H Q -> wpAny (model X.prog X.w) X.A (spliced (backTo pos (starEach es X.env))) (AP X pins σ Q) X.xe s
def PS (X : Cx) (st : Stmt) (t : TS) : Prop :=
 ∀ (pins : List (Addr × Obj)) (s : Shared) (σ : St) (H : Hp) (D : Ends), Inv X pins σ H s -> t D σ H -> wpAny (model X.prog X.w) X.A (exec st X.env) (SP X pins D) X.xe s
def PSs (X : Cx) (st : List Stmt) (t : TS) : Prop :=
 ∀ (pins : List (Addr × Obj)) (s : Shared) (σ : St) (H : Hp) (D : Ends), Inv X pins σ H s -> t D σ H -> wpAny (model X.prog X.w) X.A (execs st X.env) (SP X pins D) X.xe s
theorem thn {α : Type} {t : Sem α} {Q Q' : α -> Shared -> Prop} {M : Model} {A : Around} {E : Value -> Shared -> Prop} {s : Shared} (h : wpAny M A t Q E s) (hQ : ∀ a s, Q a s -> Q' a s) : wpAny M A t Q' E s := wpAny_mono h hQ fun _ _ x => x
section
variable {X : Cx}
def Kv (i : Nat) : TE := fun σ H Q => ∃ v, σ[i]? = some (some v) /\ Q v H
def tC (v : V) : TE := fun _ H Q => Q v H
theorem HY {i : Nat} {x : Str} {pos : Pos} (hN : X.N[i]? = some x) (hv : Vis X.env.scope x) (hd : (x == ("__debug__" : Str)) = false := by decide) (hcd : (x == ("__classdict__" : Str)) = false := by decide) : PE X (.Name x pos) (Kv i) := by
 intro pins s σ H Q I h
 obtain ⟨v, e, h⟩ := h
 obtain ⟨m, hn, hl⟩ := I.loc
 obtain ⟨u, r, l⟩ := hl i x v hN e hv
 have fin : EP X pins σ Q u s := ⟨v, H, I, r, h⟩
 rcases l with ⟨hk, hm⟩ | ⟨hk, c, hc, hcell⟩
 ·exact wpAny_Name (wpAny_loadName_local I.ok.kind hk hn hm fin) hd
 ·rcases hk with hk | hk
  ·exact wpAny_Name (wpAny_loadName_cell I.ok.kind hk hc hcell fin) hd
  ·exact wpAny_Name (wpAny_loadName_free I.ok.kind hk hc hcell fin hcd) hd
theorem aA {i j pos} : PE X (.Constant (.int i) j pos) (tC (.int i)) := fun _ _ _ H _ I h => wpAny_Constant_int ⟨.int i, H, I.tok _, ⟨_, rfl⟩, h⟩
theorem tR {b j pos} : PE X (.Constant (.bool b) j pos) (tC (.bl b)) := fun _ _ _ H _ I h => Constant_bool ⟨.bl b, H, I, rfl, h⟩
theorem aK {x j pos} : PE X (.Constant (.str x) j pos) (tC (.str x)) := fun _ _ _ H _ I h => Calls.Constant_str ⟨.str x, H, I.tok _, ⟨_, rfl⟩, h⟩
def Gl (X : Cx) (x : Str) : Prop := X.env.kindOf x = some .globalImplicit
theorem lR {E : Value -> Shared -> Prop} {pins : List (Addr × Obj)} {s : Shared} {σ : St} {H : Hp} {x : Str} {u : Value} {pos : Pos} {Q : Value -> Shared -> Prop} (I : Inv X pins σ H s) (hg : Gl X x) (hm : X.mg x = some u) (h : Q u s)
  (hd : (x == ("__debug__" : Str)) = false := by decide) : wpAny (model X.prog X.w) X.A (eval (.Name x pos) X.env) Q E s :=
 Calls.Name_function_global I.ok.kind hg (Calls.loadGlobal_global (by rw [I.ok.glob]; exact I.mod.glob.keeps I.bk) hm h) hd
theorem pA {E : Value -> Shared -> Prop} {pins : List (Addr × Obj)} {s : Shared} {σ : St} {H : Hp} {x : Str} {u : Value} {pos : Pos} {Q : Value -> Shared -> Prop} (I : Inv X pins σ H s) (hg : Gl X x) (hm : X.mg x = none) (hv : bootBuiltins x = some u) (h : Q u s)
  (hn : x ≠ "__name__" := by decide) (hd : (x == ("__debug__" : Str)) = false := by decide) : wpAny (model X.prog X.w) X.A (eval (.Name x pos) X.env) Q E s := by
 obtain ⟨mb, h1, h2⟩ := I.mod.blt
 exact Calls.Name_function_global I.ok.kind hg (Calls.loadGlobal_builtin (by rw [I.ok.glob]; exact I.mod.glob.keeps I.bk) hm (by rw [I.ok.blt]; exact h1.keeps I.bk) ((h2 x hn).trans hv) h) hd
theorem zq {x : Str} {v : V} {u : Value} {pos : Pos} (hg : Gl X x) (hm : X.mg x = some u) (r : RelV v u) (hd : (x == ("__debug__" : Str)) = false := by decide) : PE X (.Name x pos) (tC v) :=
 fun _ _ _ H _ I h => lR I hg hm ⟨v, H, I, r, h⟩ hd
theorem Fd {x : Str} {v : V} {u : Value} {pos : Pos} (hg : Gl X x) (hm : X.mg x = none) (hv : bootBuiltins x = some u) (r : RelV v u) (hn : x ≠ "__name__" := by decide) (hd : (x == ("__debug__" : Str)) = false := by decide) : PE X (.Name x pos) (tC v) :=
 fun _ _ _ H _ I h => pA I hg hm hv ⟨v, H, I, r, h⟩ hn hd
variable {a b : Expr} {ta tb : TE} {pos : Pos}
def PC (X : Cx) (op : CmpOp) (a b : Expr) (t : TE) : Prop :=
 ∀ (pins : List (Addr × Obj)) (s : Shared) (σ : St) (H : Hp) (Q : VK), Inv X pins σ H s -> t σ H Q ->
  wpAny (model X.prog X.w) X.A (eval a X.env) (fun v s₁ => wpAny (model X.prog X.w) X.A (eval b X.env) (fun u s₂ => wpAny (model X.prog X.w) X.A (compareOp op v u) (EP X pins σ Q) X.xe s₂) X.xe s₁) X.xe s
def tB (t : TE) : TT := fun σ H Q => t σ H fun x H1 => ∃ c, x = .bl c /\ Q c H1
theorem Ep {op : CmpOp} {t : TE} (h : PC X op a b t) (h1 : behindInMarks op b = false := by first | exact nobehind _ Z0 Z0 | rfl) : PT X (.Compare a [op] [b] pos) (tB t) := by
 intro pins s σ H Q I hw
 refine wpAny_isTrue_Compare1 (thn (h pins s σ H _ I hw) fun v s1 h1 => thn h1 fun u s2 h2 => thn h2 fun c s3 ⟨x, H1, I1, r1, q1⟩ => ?_) h1
 obtain ⟨d, rfl, q⟩ := q1
 cases r1
 exact wpAny_truthy_bool ⟨H1, I1, q⟩
theorem rW {e : Expr} {t : TE} (h : PE X e t) (he : ∀ whole, isTrue e X.env whole = (do let v <- whole; standAt e.pos; holding [v] (truthy v)) := by intro _; rfl) : PT X e (tB t) := by
 intro pins s σ H Q I hw
 refine isTrue_plain (thn (h pins s σ H _ I hw) fun v s1 ⟨x, H1, I1, r1, q1⟩ => ?_) (he _)
 obtain ⟨d, rfl, q⟩ := q1
 cases r1
 exact wpAny_truthy_bool ⟨H1, I1, q⟩
variable {tA tB' : TT} {rest : List Expr}
def Uk (t u : TT) : TT := fun σ H Q => t σ H fun c H1 => if c = true then u σ H1 Q else Q false H1
def tOr (t u : TT) : TT := fun σ H Q => t σ H fun c H1 => if c = true then Q true H1 else u σ H1 Q
def UW (t : TT) : TT := fun σ H Q => t σ H fun c H1 => Q (!c) H1
theorem lO (ha : PT X a tA) : PW X (.BoolOp .And [a] pos) tA := by
 intro wh pins s σ H Q I h
 refine isTrue_and (thn (ha pins s σ H Q I h) fun c s1 e => ?_)
 cases c with
 | true => exact isTrue_and_nil e
 | false => exact e
theorem vN (ha : PT X a tA) : PW X (.BoolOp .Or [a] pos) tA := by
 intro wh pins s σ H Q I h
 refine isTrue_or (thn (ha pins s σ H Q I h) fun c s1 e => ?_)
 cases c with
 | false => exact isTrue_or_nil e
 | true => exact e
theorem mV (ha : PT X a tA) (hb : PW X (.BoolOp .And (b :: rest) pos) tB') : PW X (.BoolOp .And (a :: b :: rest) pos) (Uk tA tB') := by
 intro wh pins s σ H Q I h
 refine isTrue_and (thn (ha pins s σ H _ I h) fun c s1 ⟨H1, I1, q1⟩ => ?_)
 cases c with
 | true => exact hb wh pins s1 σ H1 Q I1 q1
 | false => exact ⟨H1, I1, q1⟩
theorem zY (ha : PT X a tA) (hb : PW X (.BoolOp .Or (b :: rest) pos) tB') : PW X (.BoolOp .Or (a :: b :: rest) pos) (tOr tA tB') := by
 intro wh pins s σ H Q I h
 refine isTrue_or (thn (ha pins s σ H _ I h) fun c s1 ⟨H1, I1, q1⟩ => ?_)
 cases c with
 | true => exact ⟨H1, I1, q1⟩
 | false => exact hb wh pins s1 σ H1 Q I1 q1
theorem IW (ha : PT X a tA) : PT X (.UnaryOp .Not a pos) (UW tA) := by
 intro pins s σ H Q I h
 exact isTrue_not (ha pins s σ H (fun c H1 => Q (!c) H1) I h)
def QR (ta tb : TE) : TE := fun σ H Q => ta σ H fun x H1 => ∃ c, x = .bl c /\ if c = true then tb σ H1 Q else Q (.bl false) H1
theorem Jw {op} {t : TE} (h : PE X a t) : PE X (.BoolOp op [a] pos) t := fun pins s σ H Q I hw => BoolOp_one (h pins s σ H Q I hw)
theorem JD (ha : PE X a ta) (hb : PE X (.BoolOp .And (b :: rest) pos) tb) : PE X (.BoolOp .And (a :: b :: rest) pos) (QR ta tb) := by
 intro pins s σ H Q I h
 refine BoolOp_and (thn (ha pins s σ H _ I h) fun v s1 ⟨x, H1, I1, r1, q1⟩ => ?_)
 obtain ⟨c, rfl, q1⟩ := q1
 cases r1
 refine wpAny_truthy_bool ?_
 cases c with
 | true => exact hb pins s1 σ H1 Q I1 q1
 | false => exact ⟨.bl false, H1, I1, rfl, q1⟩
end
def SqL (K : Frag) (H : Hp) (a : Addr) (xs : List V) : Prop :=
 Rd H a (.lst xs) \/
  ∃ (o : Obj) (its : Array Value) (n : Nat), K.lookup a = some o /\ o.cls = .type "list" /\ o.dict = none /\ o.data = .seq its n /\ its.size <= sizeLine /\ Vals xs its.toList
def SqT (K : Frag) (H : Hp) (a : Addr) (xs : List V) : Prop :=
 Rd H a (.tup xs) \/
  ∃ (o : Obj) (its : Array Value) (n : Nat), K.lookup a = some o /\ o.cls = .type "tuple" /\ o.data = .seq its n /\ its.size <= sizeLine /\ Vals xs its.toList
def Tg : Value -> Option V
 | .none => some .non
 | .bool b => some (.bl b)
 | .int i _ => some (.int i)
 | .str x _ => some (.str x)
 | .bytes b _ => some (.byt b)
 | .float b _ => some (.flt b)
 | .ref a => some (.ref a)
 | .type n => some (.ty n)
 | _ => none
theorem RelV.abs {x : V} {u : Value} (r : RelV x u) : Tg u = some x := by
 cases x with
 | non => cases r; rfl
 | bl _ => cases r; rfl
 | int _ => obtain ⟨t, rfl⟩ := r; rfl
 | str _ => obtain ⟨t, rfl⟩ := r; rfl
 | byt _ => obtain ⟨t, rfl⟩ := r; rfl
 | flt _ => obtain ⟨t, rfl⟩ := r; rfl
 | ref _ => cases r; rfl
 | ty _ => cases r; rfl
theorem RelV.inj {x y : V} {u : Value} (r : RelV x u) (q : RelV y u) : x = y := Option.some.inj (r.abs.symm.trans q.abs)
theorem Vals.inj : ∀ {xs ys : List V} {us : List Value}, Vals xs us -> Vals ys us -> xs = ys
 | _, _, _, .nil, .nil => rfl
 | _, _, _, .cons r t, .cons r' t' => by rw [r.inj r', Vals.inj t t']
section
variable {X : Cx} {pins : List (Addr × Obj)} {σ : St} {H : Hp} {s : Shared} {a : Addr} {xs ys : List V}
theorem SqL.of {K : Frag} (h : H a = some (.lst xs)) : SqL K H a xs := .inl (.inl h)
theorem SqT.of {K : Frag} (h : H a = some (.tup xs)) : SqT K H a xs := .inl (.inl h)
theorem Inv.list (I : Inv X pins σ H s) (h : SqL X.K H a xs) : ∃ its : List Value, Vals xs its /\ PlainL s.heap a its.toArray /\ xs.length <= sizeLine := by
 rcases h with h | ⟨o, its, n, hk, hc, hd, hs, hz, r⟩
 ·obtain ⟨z, its, n, r, e⟩ := h.ok I.hok
  exact ⟨its, r, ⟨_, n, e, rfl, rfl, rfl⟩, z⟩
 ·refine ⟨its.toList, r, ⟨o, n, I.kIn a o hk, hc, hd, by simpa using hs⟩, ?_⟩
  have e := r.length
  simp only [length_toList] at e
  omega
theorem Inv.tuple (I : Inv X pins σ H s) (h : SqT X.K H a xs) : ∃ its : List Value, Vals xs its /\ IsTup s.heap a its.toArray /\ xs.length <= sizeLine := by
 rcases h with h | ⟨o, its, n, hk, hc, hs, hz, r⟩
 ·obtain ⟨z, its, r, p⟩ := h.ok I.hok
  exact ⟨its, r, p, z⟩
 ·refine ⟨its.toList, r, ⟨o, I.kIn a o hk, hc, n, by simpa using hs⟩, ?_⟩
  have e := r.length
  simp only [length_toList] at e
  omega
theorem Inv.list_inj (I : Inv X pins σ H s) (h : SqL X.K H a xs) (h' : SqL X.K H a ys) : xs = ys := by
 obtain ⟨its, r, ⟨o, n, e, _, _, d⟩, _⟩ := I.list h
 obtain ⟨its', r', ⟨o', n', e', _, _, d'⟩, _⟩ := I.list h'
 rw [e] at e'; cases e'
 rw [d] at d'
 injection d' with d1 _
 have : its = its' := by simpa using congrArg Array.toList d1
 subst this
 exact r.inj r'
end
abbrev Cx.wish (X : Cx) (E : Value -> Shared -> Prop) : Cx := { X with xe := E }
abbrev Cx.nox (X : Cx) : Cx := X.wish fun _ _ => False
theorem Cx.Ok.wish {X : Cx} (ok : X.Ok) (E : Value -> Shared -> Prop) : (X.wish E).Ok :=
 ⟨ok.mod, ok.kind, ok.glob, ok.blt, ok.above, ok.inj, ok.has, ok.cab, ok.hd, ok.frames, ok.stk, ok.exf, ok.bs, ok.bsz, ok.noex, ok.exfs, ok.funs, ok.frf⟩
theorem Cx.Ok.unwish {X : Cx} {E : Value -> Shared -> Prop} (ok : (X.wish E).Ok) : X.Ok :=
 ⟨ok.mod, ok.kind, ok.glob, ok.blt, ok.above, ok.inj, ok.has, ok.cab, ok.hd, ok.frames, ok.stk, ok.exf, ok.bs, ok.bsz, ok.noex, ok.exfs, ok.funs, ok.frf⟩
section
variable {X : Cx} {pins : List (Addr × Obj)} {σ : St} {H : Hp} {s : Shared} {E : Value -> Shared -> Prop}
theorem Inv.wish (I : Inv X pins σ H s) (E : Value -> Shared -> Prop) : Inv (X.wish E) pins σ H s := ⟨I.ok.wish E, I.os, I.bare, I.base, I.loc, I.cell, I.free, I.freeC, I.pin, I.hok, I.len⟩
theorem Inv.unwish (I : Inv (X.wish E) pins σ H s) : Inv X pins σ H s := ⟨I.ok.unwish, I.os, I.bare, I.base, I.loc, I.cell, I.free, I.freeC, I.pin, I.hok, I.len⟩
theorem SP.unwish {D : Ends} {f : Flow} {s' : Shared} (h : SP (X.wish E) pins D f s') : SP X pins D f s' := by
 cases f with
 | next => obtain ⟨σ', H', I, q⟩ := h; exact ⟨σ', H', I.unwish, q⟩
 | brk => obtain ⟨σ', H', I, q⟩ := h; exact ⟨σ', H', I.unwish, q⟩
 | cont => obtain ⟨σ', H', I, q⟩ := h; exact ⟨σ', H', I.unwish, q⟩
 | ret u => obtain ⟨v, σ', H', I, r, q⟩ := h; exact ⟨v, σ', H', I.unwish, r, q⟩
theorem PSs.nox {st : List Stmt} {t : TS} (h : PSs X.nox st t) : PSs X st t := fun pins s σ H D I hw =>
 wpAny_mono (h pins s σ H D (I.wish _) hw) (fun _ _ q => q.unwish) fun _ _ z => False.elim z
end
section
variable {X : Cx} {st : Stmt} {rest : List Stmt} {t u : TS} {e : Expr} {te : TE} {pos : Pos}
def Hn : TS := fun D σ H => D.nx σ H
def RD (t u : TS) : TS := fun D σ H => t { D with nx := u D } σ H
theorem uN : PSs X [] Hn := fun _ _ σ H _ I h => wpAny_execs_nil ⟨σ, H, I, h⟩
theorem gn (h1 : PS X st t) (h2 : PSs X rest u) : PSs X (st :: rest) (RD t u) := by
 intro pins s σ H D I h
 refine wpAny_execs_cons (thn (h1 pins s σ H { D with nx := u D } I h) fun f s1 q => ?_)
 cases f with
 | next =>
  obtain ⟨σ', H', I', q⟩ := q
  exact h2 pins s1 σ' H' D I' q
 | ret v => exact q
 | brk => exact q
 | cont => exact q
theorem oV (h1 : PS X st t) : PSs X [st] t := by
 intro pins s σ H D I h
 refine wpAny_execs_cons (thn (h1 pins s σ H D I h) fun f s1 q => ?_)
 cases f with
 | next => exact wpAny_execs_nil q
 | ret v => exact q
 | brk => exact q
 | cont => exact q
theorem Inv.quiet {pins : List (Addr × Obj)} {σ : St} {H : Hp} {s : Shared} (I : Inv X pins σ H s) : interactive X.env = false := by simp [interactive, I.ok.kind]
def Hj (te : TE) : TS := fun D σ H => te σ H fun _ H1 => D.nx σ H1
theorem Fp (he : PE X e te) (hs : swapsWith e none pos.line X.env = pure false := by rfl) : PS X (.Expr e pos) (Hj te) := by
 intro pins s σ H D I h
 exact wpAny_Expr_any (thn (he pins s σ H _ I h) fun v s1 ⟨x, H1, I1, r1, q1⟩ => ⟨σ, H1, I1, q1⟩) I.quiet hs
def Qv (te : TE) : TS := fun D σ H => te σ H D.rt
theorem rm (he : PE X e te) : PS X (.Return (some e) pos) (Qv te) := by
 intro pins s σ H D I h
 exact wpAny_Return_some (thn (he pins s σ H _ I h) fun v s1 ⟨x, H1, I1, r1, q1⟩ => ⟨x, σ, H1, I1, r1, q1⟩)
def Qs (c : TT) (t u : TS) : TS := fun D σ H => c σ H fun b H1 => if b = true then t D σ H1 else u D σ H1
theorem CQ {c : Expr} {a b : List Stmt} {tc : TT} (hc : PT X c tc) (ha : PSs X a t) (hb : PSs X b u) : PS X (.If c a b pos) (Qs tc t u) := by
 intro pins s σ H D I h
 refine wpAny_If (thn (hc pins s σ H _ I h) fun d s1 ⟨H1, I1, q1⟩ => ?_)
 cases d with
 | true => exact ha pins s1 σ H1 D I1 q1
 | false => exact hb pins s1 σ H1 D I1 q1
def Cp : TS := fun _ _ _ => False
theorem DK : PS X st Cp := fun _ _ _ _ _ _ h => h.elim
end
abbrev TG := V -> St -> Hp -> (St -> Hp -> Prop) -> Prop
abbrev TGs := List V -> St -> Hp -> (St -> Hp -> Prop) -> Prop
def PG (X : Cx) (target : Expr) (t : TG) : Prop :=
 ∀ (pins : List (Addr × Obj)) (s : Shared) (σ : St) (H : Hp) (v : V) (u : Value) (Q : St -> Hp -> Prop), Inv X pins σ H s -> RelV v u -> t v σ H Q ->
  wpAny (model X.prog X.w) X.A (assign target X.env u) (fun _ s' => ∃ σ' H', Inv X pins σ' H' s' /\ Q σ' H') X.xe s
def PGs (X : Cx) (ts : List Expr) (t : TGs) : Prop :=
 ∀ (pins : List (Addr × Obj)) (s : Shared) (σ : St) (H : Hp) (vs : List V) (us : List Value) (Q : St -> Hp -> Prop), Inv X pins σ H s -> Vals vs us -> t vs σ H Q ->
  wpAny (model X.prog X.w) X.A (assignInOrder ((assignEach ts X.env).map (·.2)) us) (fun _ s' => ∃ σ' H', Inv X pins σ' H' s' /\ Q σ' H') X.xe s
section
variable {X : Cx} {pos : Pos}
def gq (i : Nat) : TG := fun v σ H Q => Q (σ.set i (some v)) H
theorem aG {i : Nat} {x : Str} (hN : X.N.Nodup) (hi : X.N[i]? = some x) (hx : Loc X.env.scope x) (hf : X.fn x = true \/ X.env.scope.names.lookup x = some .local := by first | exact .inl rfl | exact .inr rfl | assumption) : PG X (.Name x pos) (gq i) := by
 intro pins s σ H v u Q I r h
 exact wpAny_assign_Name (xP I hN hi hx r (fun s' I' => ⟨_, H, I', h⟩) hf)
def Tw : TGs := fun vs σ H Q => vs = [] /\ Q σ H
def Oi (t : TG) (u : TGs) : TGs := fun vs σ H Q => ∃ v r, vs = v :: r /\ t v σ H fun σ' H' => u r σ' H' Q
theorem oX : PGs X [] Tw := by
 intro pins s σ H vs us Q I r h
 obtain ⟨e, h⟩ := h
 subst e
 cases r
 exact assignInOrder_nil ⟨σ, H, I, h⟩
theorem bN {e : Expr} {es : List Expr} {t : TG} {u : TGs} (h1 : PG X e t) (h2 : PGs X es u)
  (hs : (assignEach (e :: es) X.env).map (·.2) = assign e X.env :: (assignEach es X.env).map (·.2) := by rfl) : PGs X (e :: es) (Oi t u) := by
 intro pins s σ H vs us Q I r h
 obtain ⟨v, vr, e1, h⟩ := h
 subst e1
 cases r with
 | cons r rr =>
  rw [hs]
  refine assignInOrder_cons (thn (h1 pins s σ H _ _ _ I r h) fun _ s1 ⟨σ1, H1, I1, q1⟩ => ?_)
  exact h2 pins s1 σ1 H1 _ _ Q I1 rr q1
def JM (K : Frag) (n : Nat) (t : TGs) : TG := fun v σ H Q => ∃ a xs, v = .ref a /\ SqT K H a xs /\ xs.length = n /\ t xs σ H Q
theorem HS {es : List Expr} {k : Nat} {t : TGs} {n : Nat} (hc : X.calm = true) (h : PGs X es t)
  (hn : (assignEach es X.env).length = n := by rfl) (hst : (assignEach es X.env).findIdx? (·.1) = none := by rfl) : PG X (.Tuple es k pos) (JM X.K n t) := by
 intro pins s σ H v u Q I r hw
 obtain ⟨a, xs, e1, hq, hl, hw⟩ := hw
 subst e1
 cases r
 obtain ⟨its, rv, ht, hz⟩ := I.tuple hq
 refine assign_Tuple_tuple (I.ok.hd hc) ht (by simp [hn, <- hl, rv.length]) hst fun h' hx => ?_
 have I1 : Inv X pins σ H { s with heap := h' } := I.kept (t' := s.toks) fun b o e => hx b o (ne_of_lt (Heap.lt_size e)) e
 exact h pins _ σ H xs _ Q I1 (by simpa using rv) hw
def yo (te : TE) (g : TG) : TS := fun D σ H => te σ H fun x H1 => g x σ H1 D.nx
theorem HN {tg e : Expr} {te : TE} {g : TG} (he : PE X e te) (hg : PG X tg g) (hs : swapsWithSole [tg] e pos.line X.env = pure false := by rfl) (hw : swappedStores [tg] e X.env = pure none := by rfl)
  (h1 : (assignEach [tg] X.env).map (·.2) = [assign tg X.env] := by rfl) : PS X (.Assign [tg] e pos) (yo te g) := by
 intro pins s σ H D I h
 refine wpAny_Assign_stores (thn (he pins s σ H _ I h) fun v s1 ⟨x, H1, I1, r1, q1⟩ => ?_) hs hw
 rw [h1]
 exact thn (hg pins s1 σ H1 x v _ I1 r1 q1) fun _ s2 q => q
theorem m7 {i : Nat} {x : Str} {e : Expr} {te : TE} {pos' : Pos} (hN : X.N.Nodup) (hi : X.N[i]? = some x) (hx : Loc X.env.scope x) (he : PE X e te) (hs : swapsWith e (some (.Name x pos')) pos.line X.env = pure false := by rfl) (hf : X.fn x = true \/ X.env.scope.names.lookup x = some .local := by first | exact .inl rfl | exact .inr rfl | assumption) :
  PS X (.Assign [.Name x pos'] e pos) (yo te (gq i)) := by
 intro pins s σ H D I h
 refine wpAny_Assign_Name (thn (he pins s σ H _ I h) fun v s1 ⟨y, H1, I1, r1, q1⟩ => ?_) hs
 exact xP I1 hN hi hx r1 (fun s2 I2 => ⟨_, H1, I2, q1⟩) hf
end
section
variable {X : Cx} {pos : Pos}
def Jf (c : TT) (tb : TS) : TS := fun D σ H => ∃ W : Nat -> St -> Hp -> Prop, (∃ m, W m σ H) /\ ∀ m σ H, W m σ H ->
 c σ H fun b H1 => if b = true then ∃ N : St -> Hp -> Prop, (∀ σ' H', N σ' H' -> ∃ m', m' < m /\ W m' σ' H') /\ tb { D with nx := N, ct := N, bk := D.nx } σ H1 else D.nx σ H1
theorem oE {c : Expr} {body : List Stmt} {tc : TT} {tb : TS} (hp : PassesOwn (model X.prog X.w) X.A X.env X.xe) (hc : PT X c tc) (hb : PSs X body tb) : PS X (.While c body [] pos) (Jf tc tb) := by
 intro pins s σ H D I h
 obtain ⟨W, ⟨m0, w0⟩, turn⟩ := h
 refine wpAny_While (codeAny_whileLoop (fun n s' => ∃ σ' H', Inv X pins σ' H' s' /\ W n σ' H') ?_ m0 ⟨σ, H, I, w0⟩)
 rintro n s1 ⟨σ1, H1, I1, w1⟩
 refine wpAny_passesOwn hp (thn (hc pins s1 σ1 H1 _ I1 (turn n σ1 H1 w1)) fun b s2 ⟨H2, I2, q2⟩ => ?_)
 cases b with
 | true =>
  obtain ⟨N, hN, q2⟩ := q2
  rw [if_pos rfl]
  refine wpAny_passesOwn hp (thn (hb pins s2 σ1 H2 _ I2 q2) fun f s3 q3 => ?_)
  cases f with
  | next =>
   obtain ⟨σ3, H3, I3, n3⟩ := q3
   obtain ⟨m', hm, w3⟩ := hN σ3 H3 n3
   exact ⟨m', hm, σ3, H3, I3, w3⟩
  | cont =>
   obtain ⟨σ3, H3, I3, n3⟩ := q3
   obtain ⟨m', hm, w3⟩ := hN σ3 H3 n3
   exact ⟨m', hm, σ3, H3, I3, w3⟩
  | brk => exact q3
  | ret v => exact q3
 | false =>
  rw [if_neg Bool.false_ne_true]
  exact wpAny_execs_nil ⟨σ1, H2, I2, q2⟩
end
structure It where
 go : Nat -> Hp -> Prop
 yld : Nat -> Hp -> V -> Hp -> Prop
 stop : Nat -> Hp -> Prop
def qT (X : Cx) (pins : List (Addr × Obj)) (H : Hp) (b : Addr) : Prop :=
 H b = none /\ b ≠ X.env.locals /\ b ∉ X.fs /\ (b ∈ X.ex \/ X.s₀.heap.objs.size <= b) /\ (∀ x c, X.env.cells.lookup x = some c -> c ≠ b) /\ ∀ p ∈ X.pn ++ pins, p.1 ≠ b
theorem Inv.fpOk {X : Cx} {pins : List (Addr × Obj)} {σ : St} {H H' : Hp} {s : Shared} {b : Addr} (I : Inv X pins σ H s) (hb : s.heap.objs.size <= b) (hn : H' b = none) : qT X pins H' b := by
 refine ⟨hn, ne_of_gt (lt_of_lt_of_le I.lt hb), I.nofs hb, .inr (le_trans I.sz hb), fun x c e z => ?_, fun p hp z => ?_⟩
 ·obtain ⟨v, q⟩ := I.cell x c e
  exact absurd (lt_of_lt_of_le q.lt (by rw [z]; exact hb)) (lt_irrefl _)
 ·exact absurd (lt_of_lt_of_le (Heap.lt_size (I.pin p hp).1) (by rw [z]; exact hb)) (lt_irrefl _)
structure Turn (P : Program) (w : World) (K : Frag) (tg : Expr) (J : It) (fp : List Addr) (it : Addr) (tn : Nat -> Heap -> Prop) : Prop where
 mem : it ∈ fp
 obj : ∀ i h, tn i h -> ∀ b ∈ fp, ∃ o, h.get? b = some o /\ ∀ v, o.data ≠ .cell v
 keep : ∀ i h h', tn i h -> (∀ b ∈ fp, ∀ o, h.get? b = some o -> h'.get? b = some o) -> tn i h'
 item : ∀ (X : Cx), X.prog = P -> X.w = w -> X.K = K -> X.calm = true -> ∀ (i : Nat) (pins : List (Addr × Obj)) (s : Shared) (σ : St) (H : Hp) (E : Value -> Shared -> Prop), Inv X pins σ H s -> (∀ b ∈ fp, qT X pins H b) -> tn i s.heap -> J.go i H ->
  wpAny (model P w) X.A (pyNext (.ref it)) (fun r s1 => ∃ u, r = some u /\
   wpAny (model P w) X.A (letOwnedTupleGo tg (.ref it) u) (fun _ s2 => ∃ x H', Inv X pins σ H' s2 /\ RelV x u /\ J.yld i H x H' /\ tn (i + 1) s2.heap /\ ∀ b ∈ fp, H' b = none) E s1) E s
 done : ∀ (X : Cx), X.prog = P -> X.w = w -> X.K = K -> X.calm = true -> ∀ (i : Nat) (pins : List (Addr × Obj)) (s : Shared) (σ : St) (H : Hp) (E : Value -> Shared -> Prop), Inv X pins σ H s -> (∀ b ∈ fp, qT X pins H b) -> tn i s.heap -> J.stop i H ->
  wpAny (model P w) X.A (pyNext (.ref it)) (fun r s1 => r = none /\ Inv X pins σ H s1) E s
 self : ∀ (A : Around) (i : Nat) (s : Shared) (Q : Value -> Shared -> Prop) (E : Value -> Shared -> Prop), tn i s.heap -> Q (.ref it) s -> wpAny (model P w) A (pyIter (.ref it)) Q E s
abbrev TI := St -> Hp -> (It -> Hp -> Prop) -> Prop
def PIE (X : Cx) (pins : List (Addr × Obj)) (σ : St) (tg : Expr) (R : It -> Hp -> Prop) (itv : Value) (s2 : Shared) : Prop :=
 ∃ (it : Addr) (fp : List Addr) (tn : Nat -> Heap -> Prop) (J : It) (H' : Hp), itv = .ref it /\ Inv X pins σ H' s2 /\ Turn X.prog X.w X.K tg J fp it tn /\ tn 0 s2.heap /\ (∀ b ∈ fp, qT X pins H' b) /\ R J H'
def PI (X : Cx) (tg iter : Expr) (wi : TI) : Prop :=
 ∀ (pins : List (Addr × Obj)) (s : Shared) (σ : St) (H : Hp) (R : It -> Hp -> Prop), Inv X pins σ H s -> wi σ H R ->
  wpAny (model X.prog X.w) X.A (eval iter X.env) (fun v s1 => wpAny (model X.prog X.w) X.A (pyIter v) (PIE X pins σ tg R) X.xe s1) X.xe s
theorem zx {M : Model} {A : Around} {E : Value -> Shared -> Prop} {s : Shared} {tg : Expr} {it : Addr} {u : Value} {o : Obj} {n : String} {vs : Array Value} {Q : Unit -> Shared -> Prop} (ho : s.heap.get? it = some o) (hc : o.cls = .type n) (hd : o.data = .fields vs)
  (hn : ["enumerate", "zip", "dict_itemiterator", "dict_reverseitemiterator", "odict_iterator", "itertools.zip_longest", "itertools.pairwise"].contains n = false) (hQ : Q () s) : wpAny M A (letOwnedTupleGo tg (.ref it) u) Q E s := by
 unfold letOwnedTupleGo
 cases tg <;> first
  | exact wpAny_pure hQ
  | (cases u <;> first
    | exact wpAny_pure hQ
    | (refine wpAny_bind (wpAny_load ho ?_)
       rw [hc, hd]
       show wpAny M A (if (["enumerate", "zip", "dict_itemiterator", "dict_reverseitemiterator", "odict_iterator", "itertools.zip_longest", "itertools.pairwise"].contains n && vs[0]? == some (rawInt _)) = true then _ else _) Q E s
       rw [if_neg (by intro h; rw [hn, Bool.false_and] at h; cases h)]
       exact wpAny_pure hQ))
def Itl (K : Frag) (a : Addr) : It :=
 ⟨fun i H => ∃ xs x, SqL K H a xs /\ xs[i]? = some x, fun i H x H' => H' = H /\ ∀ xs, SqL K H a xs -> xs[i]? = some x, fun i H => ∃ xs, SqL K H a xs /\ xs.length <= i⟩
def Itr (lo : Int) (n : Nat) : It := ⟨fun i _ => i < n, fun i H x H' => H' = H /\ x = .int (lo + i), fun i _ => n <= i⟩
theorem Ba {P : Program} {w : World} {K : Frag} {tg : Expr} (a it : Addr) : Turn P w K tg (Itl K a) [it] it (fun i h => h.IsListIter it a i) where
 mem := by simp
 obj := fun i h st b hb => by
  have e : b = it := by simpa using hb
  subst e
  obtain ⟨o, e, c, d⟩ := st
  exact ⟨o, e, fun v z => by rw [d] at z; cases z⟩
 keep := fun i h h' st k => st.at fun o e => k it Z2 o e
 item := by
  intro X hP hw hK hc i pins s σ H E I hf st hg
  subst hP hw hK
  obtain ⟨xs, x, hq, hx⟩ := hg
  obtain ⟨its, rv, p, hz⟩ := I.list hq
  obtain ⟨u, hu, ru⟩ := rv.get hx
  obtain ⟨f0, f1, f2, f3, f4, f5⟩ := hf it Z2
  refine wpAny_pyNext_list_item st p.isList (x := u) (by simpa using hu) fun h' st' sb => ?_
  have I1 : Inv X pins σ H { s with heap := h' } := I.turned (t' := s.toks) (fun b o hb e => (sb.2 b hb).trans e) f0 f1 f3 f4 f5
  obtain ⟨o, e, c, d⟩ := id st'
  exact ⟨u, rfl, zx (s := { s with heap := h' }) e c d Z0 ⟨x, H, I1, ru, ⟨rfl, fun ys hy => by rw [I.list_inj hy hq]; exact hx⟩, st', fun b hb => (hf b hb).1⟩⟩
 done := by
  intro X hP hw hK hc i pins s σ H E I hf st hg
  subst hP hw hK
  obtain ⟨xs, hq, hx⟩ := hg
  obtain ⟨its, rv, p, hz⟩ := I.list hq
  obtain ⟨f0, f1, f2, f3, f4, f5⟩ := hf it Z2
  have hl := rv.length
  exact wpAny_pyNext_list_end (I.ok.hd hc) st p.isList Z6 fun h' eb => ⟨rfl, I.turned (t' := s.toks) (fun b o hb e => eb b o hb e) f0 f1 f3 f4 f5⟩
 self := fun _ _ _ _ _ st h => wpAny_pyIter_listiter st h
theorem xX {P : Program} {w : World} {K : Frag} {tg : Expr} (it : Addr) (lo : Int) (n : Nat) : Turn P w K tg (Itr lo n) [it] it (fun i h => IsRangeIter h it (lo + (i : Nat) * 1) ((n : Int) - (i : Nat)) 1) where
 mem := by simp
 obj := fun i h st b hb => by
  have e : b = it := by simpa using hb
  subst e
  exact ⟨_, st, fun v z => by
   have z' : Data.fields _ = Data.cell v := z
   cases z'⟩
 keep := fun i h h' st k => k it Z2 _ st
 item := by
  intro X hP hw hK hc i pins s σ H E I hf st hg
  subst hP hw hK
  obtain ⟨f0, f1, f2, f3, f4, f5⟩ := hf it Z2
  have W := Walks.range (prog := X.prog) (w := X.w) (I.ok.hd hc) it lo 1 n
  refine W.item i s _ _ hg st fun v h' tk hv st' kk => ?_
  obtain ⟨t, rfl⟩ := hv
  have I1 : Inv X pins σ H { s with heap := h', toks := tk } := I.turned (fun b o hb e => kk b o (by simpa using hb) e) f0 f1 f3 f4 f5
  refine ⟨_, rfl, zx (s := { s with heap := h', toks := tk }) (n := "range_iterator") st' rfl rfl Z0 ⟨.int (lo + i), H, I1, ⟨t, ?_⟩, ⟨rfl, rfl⟩, st', fun b hb => (hf b hb).1⟩⟩
  rw [Int.mul_one]
 done := by
  intro X hP hw hK hc i pins s σ H E I hf st hg
  subst hP hw hK
  obtain ⟨f0, f1, f2, f3, f4, f5⟩ := hf it Z2
  exact wpAny_pyNext_range_end (I.ok.hd hc) st (by have : n <= i := hg; omega) fun h' eb => ⟨rfl, I.turned (t' := s.toks) (fun b o hb e => eb b o hb e) f0 f1 f3 f4 f5⟩
 self := fun _ _ _ _ _ st h => wpAny_pyIter_rangeiter st h
section
variable {X : Cx} {tg : Expr}
def G7 (K : Frag) (tl : TE) : TI := fun σ H R => tl σ H fun x H1 => ∃ a, x = .ref a /\ (∃ xs, SqL K H1 a xs) /\ R (Itl K a) H1
theorem aU {l : Expr} {tl : TE} (hl : PE X l tl) : PI X tg l (G7 X.K tl) := by
 intro pins s σ H R I h
 refine thn (hl pins s σ H _ I h) fun v s1 ⟨x, H1, I1, r1, q1⟩ => ?_
 obtain ⟨a, e, ⟨xs, hq⟩, q⟩ := q1
 subst e
 cases r1
 obtain ⟨its, rv, p, hz⟩ := I1.list hq
 refine wpAny_pyIter_list p.isList ?_
 refine ⟨s1.heap.objs.size, [s1.heap.objs.size], _, _, H1, rfl, I1.kept (t' := s1.toks) fun b o e => Heap.get?_push_of_some _ e, Ba a _, ⟨_, Heap.get?_push_size _ rfl, rfl, rfl⟩, fun b hb => ?_, q⟩
 have e : b = s1.heap.objs.size := by simpa using hb
 subst e
 exact I1.fpOk (le_refl _) (I1.hok.fresh (le_refl _))
theorem wW {pins : List (Addr × Obj)} {σ : St} {H : Hp} {s : Shared} {R : It -> Hp -> Prop} {E : Value -> Shared -> Prop} {lo hi : Int} {t u v : Tok} {tk : Nat} (I : Inv X pins σ H s) (h1 : -(2 ^ 62) <= lo) (h2 : lo < 2 ^ 62) (h3 : -(2 ^ 62) <= hi) (h4 : hi < 2 ^ 62)
  (q : R (Itr lo (hi - lo).toNat) H) : wpAny (model X.prog X.w) X.A (pyIter (.ref s.heap.objs.size)) (PIE X pins σ tg R) E { s with heap := s.heap.push { cls := .type "range", data := .fields #[.int lo t, .int hi u, .int 1 v] }, toks := tk } := by
 refine wpAny_pyIter_range (IsRange.new ..) (small_one h1 h2 h3 h4) ?_
 have I1 : Inv X pins σ H { s with heap := s.heap.push { cls := .type "range", data := .fields #[.int lo t, .int hi u, .int 1 v] }, toks := tk } := I.kept fun b o e => Heap.get?_push_of_some _ e
 refine ⟨(s.heap.push { cls := .type "range", data := .fields #[.int lo t, .int hi u, .int 1 v] }).objs.size, [(s.heap.push { cls := .type "range", data := .fields #[.int lo t, .int hi u, .int 1 v] }).objs.size], _, _, H, rfl,
  I1.kept (t' := tk) fun b o e => Heap.get?_push_of_some _ e, xX _ lo (hi - lo).toNat, ?_, fun b hb => ?_, q⟩
 ·have e1 : lo + ((0 : Nat) : Int) * 1 = lo := by simp
  have e2 : (((hi - lo).toNat : Nat) : Int) - ((0 : Nat) : Int) = Builtin.Range.rangeSize lo hi 1 := by rw [rangeSize_one]; split <;> omega
  show IsRangeIter _ _ (lo + ((0 : Nat) : Int) * 1) ((((hi - lo).toNat : Nat) : Int) - ((0 : Nat) : Int)) 1
  rw [e1, e2]
  exact Heap.get?_push_size _ rfl
 ·have e : b = (s.heap.push { cls := .type "range", data := .fields #[.int lo t, .int hi u, .int 1 v] }).objs.size := by simpa using hb
  subst e
  exact I1.fpOk (le_refl _) (I1.hok.fresh (le_refl _))
def Qg (ta : TA) : TI := fun σ H R => ta σ H fun vs H1 => ∃ j : Int, vs = [.int j] /\ -(2 ^ 62) <= j /\ j < 2 ^ 62 /\ R (Itr 0 j.toNat) H1
def Sv (ta : TA) : TI := fun σ H R => ta σ H fun vs H1 => ∃ i j : Int, vs = [.int i, .int j] /\ (-(2 ^ 62) <= i /\ i < 2 ^ 62 /\ -(2 ^ 62) <= j /\ j < 2 ^ 62) /\ R (Itr i (j - i).toNat) H1
theorem fM {a : Expr} {ta : TA} {p pos : Pos} (hg : Gl X "range") (hm : X.mg "range" = none) (ha : PA X [a] ta) (hs : starEach [a] X.env = [(false, eval a X.env)] := by rfl) : PI X tg (.Call (.Name "range" p) [a] [] pos) (Qg ta) := by
 intro pins s σ H R I h
 refine Call_ (pA I hg hm boot_range (PyProof.Rows.callWith_type1 (thn (ha pos pins s σ H _ I h) fun us s1 ⟨vs, H1, I1, r1, q1⟩ => ?_) hs rfl))
 obtain ⟨j, e, q1, q2, q⟩ := q1
 subst e
 cases r1 with
 | cons r rr =>
  cases rr
  obtain ⟨t, rfl⟩ := r
  exact call_range_1 (wW I1 Z1 Z1 q1 q2 (by simpa using q))
theorem t7 {a b : Expr} {ta : TA} {p pos : Pos} (hg : Gl X "range") (hm : X.mg "range" = none) (ha : PA X [a, b] ta) (hs : starEach [a, b] X.env = [(false, eval a X.env), (false, eval b X.env)] := by rfl) (hs2 : starEach [b] X.env = [(false, eval b X.env)] := by rfl) :
  PI X tg (.Call (.Name "range" p) [a, b] [] pos) (Sv ta) := by
 intro pins s σ H R I h
 refine Call_ (pA I hg hm boot_range (PyProof.Rows.callWith_type1 (thn (ha pos pins s σ H _ I h) fun us s1 ⟨vs, H1, I1, r1, q1⟩ => ?_) (by rw [hs, hs2]) (by rw [hs2]; rfl)))
 obtain ⟨i, j, e, ⟨q1, q2, q3, q4⟩, q⟩ := q1
 subst e
 cases r1 with
 | cons r rr =>
  cases rr with
  | cons r' rr =>
   cases rr
   obtain ⟨t, rfl⟩ := r
   obtain ⟨t', rfl⟩ := r'
   exact call_range_2 (wW I1 q1 q2 q3 q4 q)
def Ob (wi : TI) (g : TG) (tb : TS) : TS := fun D σ H => wi σ H fun J H1 => ∃ W : Nat -> Nat -> St -> Hp -> Prop, (∃ m, W 0 m σ H1) /\ ∀ i m σ H, W i m σ H ->
 (J.stop i H /\ D.nx σ H) \/ (J.go i H /\ ∃ N : St -> Hp -> Prop, (∀ σ' H', N σ' H' -> ∃ m', m' < m /\ W (i + 1) m' σ' H') /\ ∀ x H', J.yld i H x H' -> g x σ H' fun σ2 H2 => tb { D with nx := N, ct := N, bk := D.nx } σ2 H2)
def rR (fp : List Addr) (h : Heap) : List (Addr × Obj) := fp.filterMap fun b => (h.get? b).map fun o => (b, o)
theorem jH {fp : List Addr} {h : Heap} {b : Addr} {o : Obj} (hb : b ∈ fp) (e : h.get? b = some o) : (b, o) ∈ rR fp h := List.mem_filterMap.mpr ⟨b, hb, by rw [e]; rfl⟩
theorem BL {fp : List Addr} {h : Heap} {p : Addr × Obj} (hp : p ∈ rR fp h) : p.1 ∈ fp /\ h.get? p.1 = some p.2 := by
 obtain ⟨b, hb, e⟩ := List.mem_filterMap.mp hp
 cases q : h.get? b with
 | none => rw [q] at e; cases e
 | some o =>
  rw [q] at e
  have e' : (b, o) = p := Option.some.inj e
  subst e'
  exact ⟨hb, q⟩
theorem Inv.pinned {pins : List (Addr × Obj)} {σ : St} {H : Hp} {s : Shared} {fp : List Addr} (I : Inv X pins σ H s) (hf : ∀ b ∈ fp, qT X pins H b) (ho : ∀ b ∈ fp, ∃ o, s.heap.get? b = some o /\ ∀ v, o.data ≠ .cell v) : Inv X (pins ++ rR fp s.heap) σ H s :=
 I.pins_of fun p hp => (mem_append.mp hp).elim (fun z => I.pin p (mem_append_right _ z)) fun z => by
  obtain ⟨hb, e⟩ := BL z
  obtain ⟨f0, f1, f2, _⟩ := hf p.1 hb
  obtain ⟨o, e', d⟩ := ho p.1 hb
  rw [e] at e'; cases e'
  exact ⟨e, f0, f1, f2, d⟩
theorem Inv.unpinned {pins pl : List (Addr × Obj)} {σ : St} {H : Hp} {s : Shared} (I : Inv X (pins ++ pl) σ H s) : Inv X pins σ H s := I.pins_of fun p hp => I.pin p (mem_append_right _ (mem_append_left _ hp))
theorem Iw {iter : Expr} {body : List Stmt} {wi : TI} {g : TG} {tb : TS} {pos : Pos} (hp : PassesOwn (model X.prog X.w) X.A X.env X.xe) (hc : X.calm = true) (hi : PI X tg iter wi) (hg : PG X tg g) (hb : PSs X body tb)
  (hs : ∀ x, foldedSetIterable iter X.env x = pure x := by intro _; rfl) : PS X (.For tg iter body [] pos) (Ob wi g tb) := by
 intro pins s σ H D I h
 refine wpAny_For (thn (hi pins s σ H _ I h) fun v s1 h1 => thn h1 fun itv s2 h2 => ?_) hs
 obtain ⟨it, fp, tn, J, H2, e, I2, T, st2, f2, W, ⟨m0, w0⟩, turn⟩ := h2
 subst e
 have stat : ∀ {H' : Hp}, (∀ b ∈ fp, H' b = none) -> ∀ b ∈ fp, qT X pins H' b := fun hn b hb => ⟨hn b hb, (f2 b hb).2⟩
 refine codeAny_forLoop_any (fun n s' => ∃ i σ' H', Inv X pins σ' H' s' /\ tn i s'.heap /\ (∀ b ∈ fp, H' b = none) /\ W i n σ' H') ?_ m0 ⟨0, σ, H2, I2, st2, fun b hb => (f2 b hb).1, w0⟩
 rintro n s3 ⟨i, σ3, H3, I3, st3, fr3, w3⟩
 rcases turn i n σ3 H3 w3 with ⟨stop, qn⟩ | ⟨go, N, hN, step⟩
 ·refine wpAny_passesOwn hp (thn (T.done X rfl rfl rfl hc i pins s3 σ3 H3 X.xe I3 (stat fr3) st3 stop) fun r s4 ⟨hr, I4⟩ => ?_)
  subst hr
  exact wpAny_execs_nil ⟨σ3, H3, I4, qn⟩
 ·refine wpAny_passesOwn hp (thn (T.item X rfl rfl rfl hc i pins s3 σ3 H3 X.xe I3 (stat fr3) st3 go) fun r s4 ⟨u, hr, h4⟩ => ?_)
  subst hr
  refine wpAny_passesOwn hp (thn h4 fun _ s5 ⟨x, H5, I5, r5, y5, st5, fr5⟩ => ?_)
  have I5' := I5.pinned (stat fr5) (T.obj _ _ st5)
  refine wpAny_passesOwn hp (thn (hg _ s5 σ3 H5 x u _ I5' r5 (step x H5 y5)) fun _ s6 ⟨σ6, H6, I6, q6⟩ => ?_)
  refine wpAny_passesOwn hp (thn (hb _ s6 σ6 H6 _ I6 q6) fun f s7 q7 => ?_)
  have again : ∀ {σ7 : St} {H7 : Hp}, Inv X (pins ++ rR fp s5.heap) σ7 H7 s7 -> N σ7 H7 -> ∃ m, m < n /\ ∃ i σ' H', Inv X pins σ' H' s7 /\ tn i s7.heap /\ (∀ b ∈ fp, H' b = none) /\ W i m σ' H' := fun {σ7 H7} I7 n7 => by
   obtain ⟨m', hm, w7⟩ := hN σ7 H7 n7
   refine ⟨m', hm, i + 1, σ7, H7, I7.unpinned, T.keep _ _ _ st5 fun b hb o e => (I7.pin (b, o) (mem_append_right _ (mem_append_right _ (jH hb e)))).1, fun b hb => ?_, w7⟩
   obtain ⟨o, e, d⟩ := T.obj _ _ st5 b hb
   exact (I7.pin (b, o) (mem_append_right _ (mem_append_right _ (jH hb e)))).2.1
  cases f with
  | next => obtain ⟨σ7, H7, I7, n7⟩ := q7; exact again I7 n7
  | cont => obtain ⟨σ7, H7, I7, n7⟩ := q7; exact again I7 n7
  | brk => obtain ⟨σ7, H7, I7, q7⟩ := q7; exact ⟨σ7, H7, I7.unpinned, q7⟩
  | ret v => obtain ⟨x7, σ7, H7, I7, r7, q7⟩ := q7; exact ⟨x7, σ7, H7, I7.unpinned, r7, q7⟩
end
theorem bI {K : Frag} {a : Addr} {xs : List V} {g : TG} {tb : TS} {D : Ends} {σ : St} {H : Hp} (Pv : Nat -> St -> Hp -> Prop) (h0 : Pv 0 σ H) (hl : ∀ i σ H, i <= xs.length -> Pv i σ H -> SqL K H a xs)
  (hs : ∀ i x σ H, xs[i]? = some x -> Pv i σ H -> g x σ H fun σ2 H2 => tb { D with nx := Pv (i + 1), ct := Pv (i + 1), bk := D.nx } σ2 H2) (hd : ∀ σ H, Pv xs.length σ H -> D.nx σ H) :
  ∃ W : Nat -> Nat -> St -> Hp -> Prop, (∃ m, W 0 m σ H) /\ ∀ i m σ H, W i m σ H ->
   ((Itl K a).stop i H /\ D.nx σ H) \/ ((Itl K a).go i H /\ ∃ N : St -> Hp -> Prop, (∀ σ' H', N σ' H' -> ∃ m', m' < m /\ W (i + 1) m' σ' H') /\ ∀ x H', (Itl K a).yld i H x H' -> g x σ H' fun σ2 H2 => tb { D with nx := N, ct := N, bk := D.nx } σ2 H2) := by
 refine ⟨fun i m σ H => m = xs.length - i /\ i <= xs.length /\ Pv i σ H, ⟨xs.length, Z2, zero_le _, h0⟩, ?_⟩
 rintro i m σ H ⟨rfl, hi, p⟩
 have q := hl i σ H hi p
 by_cases hlt : i < xs.length
 ·refine .inr ⟨⟨xs, xs[i], q, by simp [hlt]⟩, Pv (i + 1), fun σ' H' p' => ⟨xs.length - (i + 1), Z1, rfl, hlt, p'⟩, fun x H' y => ?_⟩
  obtain ⟨e, y⟩ := y
  subst e
  exact hs i x σ _ (y xs q) p
 ·have e : i = xs.length := by omega
  subst e
  exact .inl ⟨⟨xs, q, le_refl _⟩, hd σ H p⟩
theorem lY {lo : Int} {n : Nat} {g : TG} {tb : TS} {D : Ends} {σ : St} {H : Hp} (Pv : Nat -> St -> Hp -> Prop) (h0 : Pv 0 σ H)
  (hs : ∀ i σ H, i < n -> Pv i σ H -> g (.int (lo + i)) σ H fun σ2 H2 => tb { D with nx := Pv (i + 1), ct := Pv (i + 1), bk := D.nx } σ2 H2) (hd : ∀ σ H, Pv n σ H -> D.nx σ H) :
  ∃ W : Nat -> Nat -> St -> Hp -> Prop, (∃ m, W 0 m σ H) /\ ∀ i m σ H, W i m σ H ->
   ((Itr lo n).stop i H /\ D.nx σ H) \/ ((Itr lo n).go i H /\ ∃ N : St -> Hp -> Prop, (∀ σ' H', N σ' H' -> ∃ m', m' < m /\ W (i + 1) m' σ' H') /\ ∀ x H', (Itr lo n).yld i H x H' -> g x σ H' fun σ2 H2 => tb { D with nx := N, ct := N, bk := D.nx } σ2 H2) := by
 refine ⟨fun i m σ H => m = n - i /\ i <= n /\ Pv i σ H, ⟨n, Z2, zero_le _, h0⟩, ?_⟩
 rintro i m σ H ⟨rfl, hi, p⟩
 by_cases hlt : i < n
 ·refine .inr ⟨hlt, Pv (i + 1), fun σ' H' p' => ⟨n - (i + 1), Z1, rfl, hlt, p'⟩, fun x H' y => ?_⟩
  obtain ⟨e, y⟩ := y
  subst e y
  exact hs i σ _ hlt p
 ·have e : i = n := by omega
  subst e
  exact .inl ⟨le_refl _, hd σ H p⟩
abbrev R2 := V -> V -> Hp -> VK -> Prop
def OpR (X : Cx) (f : Value -> Value -> Sem Value) (r : R2) : Prop :=
 ∀ (pins : List (Addr × Obj)) (s : Shared) (σ : St) (H : Hp) (x y : V) (v u : Value) (Q : VK), Inv X pins σ H s -> RelV x v -> RelV y u -> r x y H Q ->
  wpAny (model X.prog X.w) X.A (f v u) (EP X pins σ Q) X.xe s
def UnR (X : Cx) (f : Value -> Sem Value) (r : V -> Hp -> VK -> Prop) : Prop :=
 ∀ (pins : List (Addr × Obj)) (s : Shared) (σ : St) (H : Hp) (x : V) (v : Value) (Q : VK), Inv X pins σ H s -> RelV x v -> r x H Q ->
  wpAny (model X.prog X.w) X.A (f v) (EP X pins σ Q) X.xe s
def kE (X : Cx) (f : Value) (r : List V -> Hp -> VK -> Prop) : Prop :=
 ∀ (pins : List (Addr × Obj)) (s : Shared) (σ : St) (H : Hp) (xs : List V) (us : List Value) (Q : VK), Inv X pins σ H s -> Vals xs us -> r xs H Q ->
  wpAny (model X.prog X.w) X.A (call f us) (EP X pins σ Q) X.xe s
def tOp (r : R2) (ta tb : TE) : TE := fun σ H Q => ta σ H fun x H1 => tb σ H1 fun y H2 => r x y H2 Q
def tUn (r : V -> Hp -> VK -> Prop) (ta : TE) : TE := fun σ H Q => ta σ H fun x H1 => r x H1 Q
def rI (C : Int -> Int -> Prop) (g : Int -> Int -> V) : R2 := fun x y H Q => ∃ i j, x = .int i /\ y = .int j /\ C i j /\ Q (g i j) H
def rI0 (g : Int -> Int -> V) : R2 := fun x y H Q => ∃ i j, x = .int i /\ y = .int j /\ Q (g i j) H
def rU (g : Int -> V) : V -> Hp -> VK -> Prop := fun x H Q => ∃ i, x = .int i /\ Q (g i) H
section
variable {X : Cx} {a b c : Expr} {ta tb tc : TE} {pos : Pos}
theorem Jx (ha : PE X a ta) (hb : PE X b tb) {pins : List (Addr × Obj)} {s : Shared} {σ : St} {H : Hp} {R : V -> V -> Hp -> Prop} (I : Inv X pins σ H s)
  (h : ta σ H fun x H1 => tb σ H1 fun y H2 => R x y H2) {Q : Value -> Shared -> Prop} {f : Value -> Value -> Sem Value}
  (hf : ∀ v u s2 x y H2, Inv X pins σ H2 s2 -> RelV x v -> RelV y u -> R x y H2 -> wpAny (model X.prog X.w) X.A (f v u) Q X.xe s2) :
  wpAny (model X.prog X.w) X.A (eval a X.env) (fun v s₁ => wpAny (model X.prog X.w) X.A (eval b X.env) (fun u s₂ => wpAny (model X.prog X.w) X.A (f v u) Q X.xe s₂) X.xe s₁) X.xe s := by
 refine thn (ha pins s σ H _ I h) fun v s1 ⟨x, H1, I1, r1, q1⟩ => ?_
 refine thn (hb pins s1 σ H1 _ I1 q1) fun u s2 ⟨y, H2, I2, r2, q2⟩ => ?_
 exact hf v u s2 x y H2 I2 r1 r2 q2
theorem aQ {op : Operator} {r : R2} (ho : OpR X (binaryOp op) r) (ha : PE X a ta) (hb : PE X b tb) : PE X (.BinOp a op b pos) (tOp r ta tb) := by
 intro pins s σ H Q I h
 exact wpAny_BinOp (Jx ha hb I h fun v u s2 x y H2 I2 rx ry q => ho pins s2 σ H2 x y v u Q I2 rx ry q)
theorem xx {op : UnaryOp} {r : V -> Hp -> VK -> Prop} (ho : UnR X (unaryOp op) r) (ha : PE X a ta) : PE X (.UnaryOp op a pos) (tUn r ta) := by
 intro pins s σ H Q I h
 exact UnaryOp_ (thn (ha pins s σ H _ I h) fun v s1 ⟨x, H1, I1, r1, q1⟩ => ho pins s1 σ H1 x v Q I1 r1 q1)
theorem opI {f : Value -> Value -> Sem Value} {C : Int -> Int -> Prop} {g : Int -> Int -> Int}
  (rule : ∀ (i j : Int) (t u : Tok) (s : Shared) (Q : Value -> Shared -> Prop) (E : Value -> Shared -> Prop), C i j -> Q (.int (g i j) s.toks) { s with toks := s.toks + 1 } -> wpAny (model X.prog X.w) X.A (f (.int i t) (.int j u)) Q E s) :
  OpR X f (rI C fun i j => .int (g i j)) := by
 intro pins s σ H x y v u Q I rx ry h
 obtain ⟨i, j, rfl, rfl, hc, q⟩ := h
 obtain ⟨t, rfl⟩ := rx
 obtain ⟨t', rfl⟩ := ry
 exact rule i j t t' s _ _ hc ⟨.int (g i j), H, I.tok _, ⟨_, rfl⟩, q⟩
theorem JH {f : Value -> Value -> Sem Value} {g : Int -> Int -> Int}
  (rule : ∀ (i j : Int) (t u : Tok) (s : Shared) (Q : Value -> Shared -> Prop) (E : Value -> Shared -> Prop), Q (.int (g i j) s.toks) { s with toks := s.toks + 1 } -> wpAny (model X.prog X.w) X.A (f (.int i t) (.int j u)) Q E s) :
  OpR X f (rI0 fun i j => .int (g i j)) := by
 intro pins s σ H x y v u Q I rx ry h
 obtain ⟨i, j, rfl, rfl, q⟩ := h
 obtain ⟨t, rfl⟩ := rx
 obtain ⟨t', rfl⟩ := ry
 exact rule i j t t' s _ _ ⟨.int (g i j), H, I.tok _, ⟨_, rfl⟩, q⟩
theorem Ja {f : Value -> Value -> Sem Value} {g : Int -> Int -> Bool}
  (rule : ∀ (i j : Int) (t u : Tok) (s : Shared) (Q : Value -> Shared -> Prop) (E : Value -> Shared -> Prop), Q (.bool (g i j)) s -> wpAny (model X.prog X.w) X.A (f (.int i t) (.int j u)) Q E s) :
  OpR X f (rI0 fun i j => .bl (g i j)) := by
 intro pins s σ H x y v u Q I rx ry h
 obtain ⟨i, j, rfl, rfl, q⟩ := h
 obtain ⟨t, rfl⟩ := rx
 obtain ⟨t', rfl⟩ := ry
 exact rule i j t t' s _ _ ⟨.bl (g i j), H, I, rfl, q⟩
def Vb (i j : Int) : Prop := 0 < j /\ j < 1073741824
def Tr (i j : Int) : Prop := 0 <= j /\ j <= 1000000 /\ i.natAbs < 2 ^ 64
def Jv (i j : Int) : Prop := (-(2 ^ 64) < i /\ i < 2 ^ 64) \/ (-(2 ^ 64) < j /\ j < 2 ^ 64)
theorem Jv.ok {i j : Int} (h : Jv i j) : IntMulOk i j := by
 rcases h with ⟨h1, h2⟩ | ⟨h1, h2⟩
 ·exact .of_left (intBits_le_64 h1 h2)
 ·exact .of_right (intBits_le_64 h1 h2)
theorem ye (k : Nat) : (0 : Int) <= 2 ^ k := by
 rw [two_pow_cast]
 exact Int.natCast_nonneg _
theorem cR : OpR X (binaryOp .Add) (rI0 fun i j => .int (i + j)) := JH fun _ _ _ _ _ _ _ q => add_int q
theorem Ig : OpR X (binaryOp .Sub) (rI0 fun i j => .int (i - j)) := JH fun _ _ _ _ _ _ _ q => sub_int q
theorem nC : OpR X (binaryOp .Mult) (rI Jv fun i j => .int (i * j)) := opI fun _ _ _ _ _ _ _ hc q => mul_int q hc.ok
theorem qu : OpR X (binaryOp .FloorDiv) (rI Vb fun i j => .int (i / j)) := opI fun i j _ _ _ _ _ hc q => by
 have h1 : (0 : Int) < j := hc.1
 have h2 : j < 1073741824 := hc.2
 exact floordiv_int Z1 (by rw [Int.fdiv_eq_ediv_of_nonneg i Z1]; exact q) (.inl (PyProof.noPylong_small Z1))
theorem jd : OpR X (binaryOp .Mod) (rI (fun _ j => 0 < j) fun i j => .int (i % j)) := opI fun i j _ _ _ _ _ hc q => by
 have h1 : (0 : Int) < j := hc
 exact mod_int' Z1 (by rw [Int.fmod_eq_emod_of_nonneg i Z1]; exact q)
theorem Jo : OpR X (binaryOp .LShift) (rI Tr fun i j => .int (i * 2 ^ j.toNat)) := opI fun _ _ _ _ _ _ _ hc q => lshift_int_small hc.1 hc.2.1 hc.2.2 q
theorem Dy : OpR X (binaryOp .RShift) (rI (fun _ j => 0 <= j) fun i j => .int (i / 2 ^ j.toNat)) := opI fun i j _ _ _ _ _ hc q =>
 rshift_int hc (by rw [Int.fdiv_eq_ediv_of_nonneg i (ye _)]; exact q)
theorem Dq : OpR X (binaryOp .BitAnd) (rI0 fun i j => .int (Builtin.bitAnd i j)) := JH fun _ _ _ _ _ _ _ q => and_int q
theorem unI {f : Value -> Sem Value} {g : Int -> Int}
  (rule : ∀ (i : Int) (t : Tok) (s : Shared) (Q : Value -> Shared -> Prop) (E : Value -> Shared -> Prop), Q (.int (g i) s.toks) { s with toks := s.toks + 1 } -> wpAny (model X.prog X.w) X.A (f (.int i t)) Q E s) :
  UnR X f (rU fun i => .int (g i)) := by
 intro pins s σ H x v Q I rx h
 obtain ⟨i, rfl, q⟩ := h
 obtain ⟨t, rfl⟩ := rx
 exact rule i t s _ _ ⟨.int (g i), H, I.tok _, ⟨_, rfl⟩, q⟩
theorem rM : UnR X (unaryOp .USub) (rU fun i => .int (-i)) := unI fun _ _ _ _ _ q => neg_int q
end
def K6 : V -> V -> Bool
 | .non, .non => true | .non, .int _ => true | .int _, .non => true | .non, .bl _ => true | .bl _, .non => true | .non, .str _ => true | .str _, .non => true
 | .int _, .int _ => true | .bl _, .bl _ => true | .str _, .str _ => true | .byt _, .byt _ => true
 | .int _, .str _ => true | .str _, .int _ => true | .bl _, .str _ => true | .str _, .bl _ => true
 | _, _ => false
def rEq : R2 := fun x y H Q => K6 x y = true /\ Q (.bl (decide (x = y))) H
def rNe : R2 := fun x y H Q => K6 x y = true /\ Q (.bl (!decide (x = y))) H
theorem zz {i j : Int} : decide (V.int i = V.int j) = (i == j) := by
 rw [Bool.eq_iff_iff]
 simp
theorem CK {i j : Bool} : decide (V.bl i = V.bl j) = (i == j) := by
 rw [Bool.eq_iff_iff]
 simp
theorem zf {i j : Str} : decide (V.str i = V.str j) = (i == j) := by
 rw [Bool.eq_iff_iff]
 simp
theorem zQ {i j : Array UInt8} : decide (V.byt i = V.byt j) = (i.toList == j.toList) := by
 rw [Bool.eq_iff_iff]
 cases i
 cases j
 simp
section
variable {X : Cx} {a b c : Expr} {ta tb tc : TE} {pos : Pos}
theorem bu {pins : List (Addr × Obj)} {σ : St} {H : Hp} {s : Shared} {Q : VK} {k k' : Bool} (I : Inv X pins σ H s) (q : Q (.bl k) H) (e : k = k') : EP X pins σ Q (.bool k') s := by
 subst e
 exact ⟨.bl k, H, I, rfl, q⟩
theorem eN : OpR X (compareOp .Eq) rEq := by
 intro pins s σ H x y v u Q I rx ry h
 obtain ⟨hs, q⟩ := h
 cases x with
 | non =>
  cases rx
  cases y with
  | non => cases ry; exact PySem.EqNone.eq_none_none (bu I q Z2)
  | bl j => cases ry; exact PySem.EqNone.eq_none_bool (bu I q Z2)
  | int j => obtain ⟨t', rfl⟩ := ry; exact PySem.EqNone.eq_none_int (bu I q Z2)
  | str j => obtain ⟨t', rfl⟩ := ry; exact PySem.EqNone.eq_none_str (bu I q Z2)
  | _ => exact absurd (show false = true from hs) Bool.false_ne_true
 | bl i =>
  cases rx
  cases y with
  | non => cases ry; exact PySem.EqNone.eq_bool_none (bu I q Z2)
  | bl j => cases ry; exact eq_bool (bu I q CK)
  | str j => obtain ⟨t', rfl⟩ := ry; exact PySem.EqMixed.eq_bool_str (bu I q Z2)
  | _ => exact absurd (show false = true from hs) Bool.false_ne_true
 | int i =>
  obtain ⟨t, rfl⟩ := rx
  cases y with
  | non => cases ry; exact PySem.EqNone.eq_int_none (bu I q Z2)
  | int j => obtain ⟨t', rfl⟩ := ry; exact eq_int (bu I q zz)
  | str j => obtain ⟨t', rfl⟩ := ry; exact PySem.EqMixed.eq_int_str (bu I q Z2)
  | _ => exact absurd (show false = true from hs) Bool.false_ne_true
 | str i =>
  obtain ⟨t, rfl⟩ := rx
  cases y with
  | non => cases ry; exact PySem.EqNone.eq_str_none (bu I q Z2)
  | bl j => cases ry; exact PySem.EqMixed.eq_str_bool (bu I q Z2)
  | int j => obtain ⟨t', rfl⟩ := ry; exact PySem.EqMixed.eq_str_int (bu I q Z2)
  | str j => obtain ⟨t', rfl⟩ := ry; exact eq_str (bu I q zf)
  | _ => exact absurd (show false = true from hs) Bool.false_ne_true
 | byt i =>
  obtain ⟨t, rfl⟩ := rx
  cases y with
  | byt j => obtain ⟨t', rfl⟩ := ry; exact PySem.W.eq_bytes (bu I q zQ)
  | _ => exact absurd (show false = true from hs) Bool.false_ne_true
 | _ => cases y <;> exact absurd (show false = true from hs) Bool.false_ne_true
theorem Ae : OpR X (compareOp .NotEq) rNe := by
 intro pins s σ H x y v u Q I rx ry h
 obtain ⟨hs, q⟩ := h
 cases x with
 | non =>
  cases rx
  cases y with
  | non => cases ry; exact PySem.EqNone.ne_none_none (bu I q Z2)
  | bl j => cases ry; exact PySem.EqNone.ne_none_bool (bu I q Z2)
  | int j => obtain ⟨t', rfl⟩ := ry; exact PySem.EqNone.ne_none_int (bu I q Z2)
  | str j => obtain ⟨t', rfl⟩ := ry; exact PySem.EqNone.ne_none_str (bu I q Z2)
  | _ => exact absurd (show false = true from hs) Bool.false_ne_true
 | bl i =>
  cases rx
  cases y with
  | non => cases ry; exact PySem.EqNone.ne_bool_none (bu I q Z2)
  | bl j => cases ry; exact ne_bool (bu I q (congrArg not CK))
  | str j => obtain ⟨t', rfl⟩ := ry; exact PySem.EqMixed.ne_bool_str (bu I q Z2)
  | _ => exact absurd (show false = true from hs) Bool.false_ne_true
 | int i =>
  obtain ⟨t, rfl⟩ := rx
  cases y with
  | non => cases ry; exact PySem.EqNone.ne_int_none (bu I q Z2)
  | int j => obtain ⟨t', rfl⟩ := ry; exact ne_int (bu I q (congrArg not zz))
  | str j => obtain ⟨t', rfl⟩ := ry; exact PySem.EqMixed.ne_int_str (bu I q Z2)
  | _ => exact absurd (show false = true from hs) Bool.false_ne_true
 | str i =>
  obtain ⟨t, rfl⟩ := rx
  cases y with
  | non => cases ry; exact PySem.EqNone.ne_str_none (bu I q Z2)
  | bl j => cases ry; exact PySem.EqMixed.ne_str_bool (bu I q Z2)
  | int j => obtain ⟨t', rfl⟩ := ry; exact PySem.EqMixed.ne_str_int (bu I q Z2)
  | str j => obtain ⟨t', rfl⟩ := ry; exact ne_str (bu I q (congrArg not zf))
  | _ => exact absurd (show false = true from hs) Bool.false_ne_true
 | byt i =>
  obtain ⟨t, rfl⟩ := rx
  cases y with
  | byt j => obtain ⟨t', rfl⟩ := ry; exact PySem.W.ne_bytes (bu I q (congrArg not zQ))
  | _ => exact absurd (show false = true from hs) Bool.false_ne_true
 | _ => cases y <;> exact absurd (show false = true from hs) Bool.false_ne_true
theorem tU : OpR X (compareOp .Lt) (rI0 fun i j => .bl (decide (i < j))) := Ja fun _ _ _ _ _ _ _ q => lt_int q
theorem zu : OpR X (compareOp .Gt) (rI0 fun i j => .bl (decide (j < i))) := Ja fun _ _ _ _ _ _ _ q => gt_int q
theorem Ri : OpR X (compareOp .GtE) (rI0 fun i j => .bl (decide (j <= i))) := Ja fun _ _ _ _ _ _ _ q => ge_int q
theorem Av : OpR X (compareOp .In) (fun x y H Q => ∃ i j, x = .str i /\ y = .str j /\ Q (.bl (!(Builtin.Str.occurrences j i 0 j.length 1).isEmpty)) H) := by
 intro pins s σ H x y v u Q I rx ry h
 obtain ⟨i, j, rfl, rfl, q⟩ := h
 obtain ⟨t, rfl⟩ := rx
 obtain ⟨t', rfl⟩ := ry
 exact in_str (bu I q rfl)
theorem aV (b : Expr) {op : CmpOp} (h : op ≠ .In := by decide) (h2 : op ≠ .NotIn := by decide) : behindInMarks op b = false := by
 have e1 : (op == CmpOp.In) = false := by cases op <;> first | rfl | exact absurd rfl h
 have e2 : (op == CmpOp.NotIn) = false := by cases op <;> first | rfl | exact absurd rfl h2
 cases b <;> simp [behindInMarks, e1, e2]
theorem qy {op : CmpOp} {r : R2} (ho : OpR X (compareOp op) r) (ha : PE X a ta) (hb : PE X b tb) (hm : behindInMarks op b = false) : PE X (.Compare a [op] [b] pos) (tOp r ta tb) := by
 intro pins s σ H Q I h
 exact wpAny_Compare1 (Jx ha hb I h fun v u s2 x y H2 I2 rx ry q => ho pins s2 σ H2 x y v u Q I2 rx ry q) hm
def Nq (t : TE) : TT := fun σ H Q => t σ H fun x H' => ∃ k, x = .bl k /\ Q k H'
theorem aJ {op : CmpOp} {r : R2} (ho : OpR X (compareOp op) r) (ha : PE X a ta) (hb : PE X b tb) (hm : behindInMarks op b = false) : PT X (.Compare a [op] [b] pos) (Nq (tOp r ta tb)) := by
 intro pins s σ H Q I h
 refine wpAny_isTrue_Compare1 (thn (ha pins s σ H _ I h) fun v s1 ⟨x, H1, I1, r1, q1⟩ => thn (hb pins s1 σ H1 _ I1 q1) fun u s2 ⟨y, H2, I2, r2, q2⟩ =>
  thn (ho pins s2 σ H2 x y v u _ I2 r1 r2 q2) fun c s3 ⟨z, H3, I3, r3, k, e, q3⟩ => ?_) hm
 subst e
 cases r3
 exact wpAny_truthy_bool ⟨H3, I3, q3⟩
theorem vq : (sizeLine : Nat) < 2 ^ 63 := by rw [sizeLine_eq]; decide
theorem bw : OpR X (binaryOp .Add) (fun x y H Q => ∃ i j, x = .str i /\ y = .str j /\ i.length + j.length <= sizeLine /\ Q (.str (i ++ j)) H) := by
 intro pins s σ H x y v u Q I rx ry h
 obtain ⟨i, j, rfl, rfl, hz, q⟩ := h
 obtain ⟨t, rfl⟩ := rx
 obtain ⟨t', rfl⟩ := ry
 exact add_str (fun t' tk => ⟨.str (i ++ j), H, I.tok _, ⟨_, rfl⟩, q⟩) hz
theorem vals1 {x : V} {us : List Value} (r : Vals [x] us) : ∃ u, us = [u] /\ RelV x u := by
 cases r with
 | cons r1 r2 => cases r2; exact ⟨_, rfl, r1⟩
theorem vals2 {x y : V} {us : List Value} (r : Vals [x, y] us) : ∃ u w', us = [u, w'] /\ RelV x u /\ RelV y w' := by
 cases r with
 | cons r1 r2 =>
  cases r2 with
  | cons r3 r4 => cases r4; exact ⟨_, _, rfl, r1, r3⟩
theorem BR (hc : X.calm = true) : kE X (.builtin "min") (fun xs H Q => ∃ i j, xs = [.int i, .int j] /\ Q (.int (if j < i then j else i)) H) := by
 intro pins s σ H xs us Q I r h
 obtain ⟨i, j, rfl, q⟩ := h
 obtain ⟨u, w', rfl, ⟨t, rfl⟩, ⟨t', rfl⟩⟩ := vals2 r
 refine min_two_ints (I.ok.hd hc) fun h' tk k => ⟨_, H, I.kept k, ?_, q⟩
 by_cases hj : j < i
 ·rw [if_pos hj, if_pos hj]; exact ⟨_, rfl⟩
 ·rw [if_neg hj, if_neg hj]; exact ⟨_, rfl⟩
end
structure ym (h : Heap) (x dx C : Addr) (mA : Str -> Option Value) : Prop where
 obj : h.get? x = some (instObj C dx)
 ns : h.Ns1 dx mA
 ne : dx ≠ x
theorem Bk {h : Heap} {dx : Addr} {mA : Str -> Option Value} (n : h.Ns1 dx mA) : ∃ od, h.get? dx = some od /\ ∀ name, lookIn name od = some (mA name) := by
 obtain ⟨o, es, ep, ho, hd, hk, _, hm⟩ := n
 refine ⟨o, ho, fun name => ?_⟩
 have e := hm name
 unfold nsFind findBy at e
 rw [<- Array.find?_toList] at e
 unfold lookIn
 rw [hd]
 dsimp only
 split
 ·rename_i y q
  rw [q] at e
  exact congrArg some e
 ·rename_i q
  rw [q] at e
  have a : es.toList.any (·.refKey) = false := by
   rw [any_eq_false]
   intro y hy
   obtain ⟨z, t, hkey⟩ := hk y (Array.mem_toList_iff.mp hy)
   simp [DictEntry.refKey, hkey]
  have a' : ¬ es.toList.any (·.refKey) = true := by rw [a]; exact Bool.false_ne_true
  rw [if_neg a']
  exact congrArg some e
theorem ym.look {h : Heap} {x dx C : Addr} {mA : Str -> Option Value} (I : ym h x dx C mA) : ∃ od, PySem.W.InstAt h x (instObj C dx) C (some od) /\ ∀ name, lookIn name od = some (mA name) :=
 let ⟨od, ho, hl⟩ := Bk I.ns
 ⟨od, ⟨I.obj, rfl, rfl, ho⟩, hl⟩
section
variable {prog : Program} {w : World} {A : Around} {E : Value -> Shared -> Prop} {s : Shared} {K : Frag} {x dx C f : Addr} {mA : Str -> Option Value} {name : Str} {v : Value}
theorem Ga {expr : Bool} {Q : Value -> Shared -> Prop} (X : K.In s.heap) (I : ym s.heap x dx C mA) (hg : plainGet K C name = true) (hh : hasDictIn K C = true)
  (ha : findIn K (.ref C) name = some none) (hv : mA name = some v) (hv' : handedIn v = true) (h : Q v { s with toks := s.toks + 1 }) :
  wpAny (model prog w) A (getAttr (.ref x) name expr) Q E s := by
 obtain ⟨od, J, hl⟩ := I.look
 exact PySem.W.get_value X J (plainGet_of hg).1 (PySem.W.findObj_own hh ha rfl (by rw [hl, hv])) hv' h
theorem CV {pl : Sem Bool} {Q : Value × List Value -> Shared -> Prop} (X : K.In s.heap) (I : ym s.heap x dx C mA) (hg : plainGet K C name = true)
  (hf : findIn K (.ref C) name = some (some (.ref f))) (ht : isFn K (.ref f) = true) (hv : mA name = none) (h : Q (.ref f, [.ref x]) s) :
  wpAny (model prog w) A (getMethod (.ref x) name pl) Q E s := by
 obtain ⟨od, J, hl⟩ := I.look
 exact PySem.W.method_fn X J (plainGet_of hg).1 (plainGet_of hg).2 hf (beq_iff_eq.mp ht) (by show (lookIn name od).map (·.isSome) = some false; rw [hl, hv]; rfl) h
theorem FZ {ns : List Str} {Q : Unit -> Shared -> Prop} (X : K.In s.heap) (I : ym s.heap x dx C mA)
  (hs : findIn K (.ref C) "__setattr__" = some (some (.builtin "object.__setattr__"))) (hp : plainOver K C = true) (ht : takerIn K C name = some none) (hh : hasDictIn K C = true)
  (hw : PySem.Within mA ns) (hsz : ns.length <= sizeLine)
  (h : ∀ h', ym h' x dx C (fun y => if y = name then some v else mA y) -> Heap.SameBut dx s.heap h' -> Q () { s with heap := h', toks := s.toks + 2 }) :
  wpAny (model prog w) A (setAttr (.ref x) name v) Q E s := by
 obtain ⟨od, J, hl⟩ := I.look
 refine PySem.W.set_plain X J hs (PySem.W.osa_open (s := { s with toks := s.toks + 1 }) (r := none) X J hp ht fun b => ?_)
 obtain ⟨cd, hc, hd'⟩ := PySem.W.any_some hh
 have hx : s.heap.get? x = some ⟨.ref C, some dx, .plain, #[]⟩ := I.obj
 refine wpAny_bind (wpAny_pure (wpAny_bind (wpAny_bind (wpAny_loadPart hx (wpAny_bind (PySem.W.Looks.here (s := { s with toks := s.toks + 1 }) (PySem.W.looks_clsIn X hc) ?_))))))
 rw [hd']
 refine wpAny_pure (a := some dx) (wpAny_bind (wpAny_pure (wpAny_bind ?_)))
 refine wpAny_nsSet1 (s := { s with toks := s.toks + 1 }) I.ns fun h' hn2 hs2 => ?_
 obtain ⟨oD, esD, epD, hoD, hdD, hcD⟩ := hn2.count (PySem.Within.cons name v hw)
 refine wpAny_bind (wpAny_lookBehind hoD (by rw [hdD]; exact pastItsLine_dict (le_trans hcD (by rw [length_cons]; omega))) ?_)
 exact wpAny_pure (h _ ⟨(hs2.2 _ (Ne.symm I.ne)).trans I.obj, hn2, I.ne⟩ hs2)
theorem Cy {R : Result -> Shared -> Prop} {vs : List Value} {kw : List (Str × Value)} (X : K.In s.heap) (hm : makesIn K C = true)
  (hi : findIn K (.ref C) "__init__" = some (some (.ref f))) (hf : typeIn K (.ref f) = some (.type "function"))
  (h : codeAny (model prog w) (A.under (.builtin "type.__call__" ⟨.ref C :: vs, kw⟩)) (.call (.ref f) ⟨.ref (s.heap.objs.size + 1) :: vs, kw⟩) (PySem.W.InitBack (s.heap.objs.size + 1) R)
   { s with heap := (s.heap.push emptyDict).push (instObj C s.heap.objs.size) }) :
  codeAny (model prog w) A (.call (.ref C) ⟨vs, kw⟩) R s := by
 obtain ⟨hh, g, d, t, os⟩ := s
 exact PySem.W.make_core (PySem.W.makes_of X hm) (PySem.W.looks_findIn X hi) (fun self => PySem.W.bind_fn X self hf) (.inl rfl) h
end
def jm (f : Str) (v : V) : List (Str × V) -> List (Str × V)
 | [] => [(f, v)]
 | (g, x) :: r => if g = f then (g, v) :: r else (g, x) :: jm f v r
theorem iM (f g : Str) (v : V) : ∀ fs : List (Str × V), (jm f v fs).lookup g = if g = f then some v else fs.lookup g
 | [] => by
  show List.lookup g [(f, v)] = _
  by_cases h : g = f
  ·have hb : (g == f) = true := beq_iff_eq.mpr h
   simp only [List.lookup, hb, if_pos h]
  ·have hb : (g == f) = false := beq_eq_false_iff_ne.mpr h
   simp only [List.lookup, hb, if_neg h]
 | (k, x) :: r => by
  have ih := iM f g v r
  rw [show jm f v ((k, x) :: r) = (if k = f then (k, v) :: r else (k, x) :: jm f v r) from rfl]
  by_cases hk : k = f
  ·rw [if_pos hk]
   by_cases h : g = k
   ·have hb : (g == k) = true := beq_iff_eq.mpr h
    simp only [List.lookup, hb, if_pos (h.trans hk)]
   ·have hb : (g == k) = false := beq_eq_false_iff_ne.mpr h
    simp only [List.lookup, hb, if_neg (fun e : g = f => h (e.trans hk.symm))]
  ·rw [if_neg hk]
   by_cases h : g = k
   ·have hb : (g == k) = true := beq_iff_eq.mpr h
    simp only [List.lookup, hb, if_neg (fun e : g = f => hk (h.symm.trans e))]
   ·have hb : (g == k) = false := beq_eq_false_iff_ne.mpr h
    simp only [List.lookup, hb]
    exact ih
theorem pF (f : Str) (v : V) : ∀ fs : List (Str × V), f ∈ (jm f v fs).map (·.1) /\ ∀ g, g ∈ fs.map (·.1) -> g ∈ (jm f v fs).map (·.1)
 | [] => ⟨by simp [jm], fun g h => by simp at h⟩
 | (k, x) :: r => by
  obtain ⟨i1, i2⟩ := pF f v r
  rw [show jm f v ((k, x) :: r) = (if k = f then (k, v) :: r else (k, x) :: jm f v r) from rfl]
  by_cases hk : k = f
  ·rw [if_pos hk]
   subst hk
   exact ⟨Z2, fun g h => by simpa using h⟩
  ·rw [if_neg hk]
   refine ⟨?_, fun g h => ?_⟩
   ·rw [map_cons]
    exact mem_cons_of_mem _ i1
   ·rw [map_cons] at h ⊢
    rcases mem_cons.mp h with e | e
    ·exact mem_cons.mpr (.inl e)
    ·exact mem_cons_of_mem _ (i2 g e)
theorem lJ (f : Str) (v : V) : ∀ fs : List (Str × V), (jm f v fs).length <= fs.length + 1
 | [] => by simp [jm]
 | (k, x) :: r => by
  have ih := lJ f v r
  rw [show jm f v ((k, x) :: r) = (if k = f then (k, v) :: r else (k, x) :: jm f v r) from rfl]
  by_cases hk : k = f
  ·rw [if_pos hk, length_cons, length_cons]; omega
  ·rw [if_neg hk, length_cons, length_cons]; omega
theorem jF.some_of {v : V} {o : Option Value} (r : jF (some v) o) : ∃ u, o = some u /\ RelV v u := by
 cases o with
 | none => exact (show False from r).elim
 | some u => exact ⟨u, rfl, r⟩
theorem jF.none_of {o : Option Value} (r : jF none o) : o = none := by
 cases o with
 | none => rfl
 | some u => exact (show False from r).elim
theorem Be {v : V} {u : Value} (r : RelV v u) : handedIn u = true := by
 cases v with
 | non => cases (show u = Value.none from r); rfl
 | bl b => cases (show u = Value.bool b from r); rfl
 | int i => obtain ⟨t, e⟩ := (show ∃ t, u = Value.int i t from r); cases e; rfl
 | str x => obtain ⟨t, e⟩ := (show ∃ t, u = Value.str x t from r); cases e; rfl
 | byt b => obtain ⟨t, e⟩ := (show ∃ t, u = Value.bytes b t from r); cases e; rfl
 | flt b => obtain ⟨t, e⟩ := (show ∃ t, u = Value.float b t from r); cases e; rfl
 | ref a => cases (show u = Value.ref a from r); rfl
 | ty n => cases (show u = Value.type n from r); rfl
section
variable {P : Program} {w : World} {H H' : Hp} {h h' : Heap} {a C dx : Addr} {fs fs' : List (Str × V)}
theorem qH (hok : HOk P w H h) (e : H a = some (.ins C dx fs)) : ∃ mA, ym h a dx C mA /\ (∀ f, jF (fs.lookup f) (mA f)) /\ PySem.Within mA (fs.map (·.1)) /\ fs.length <= 1000 /\ H dx = some (.own a) := by
 obtain ⟨d, z, ne, ob, mA, n, r, q⟩ := (show bF P w H h a (.ins C dx fs) from hok a _ e)
 exact ⟨mA, ⟨ob, n, ne⟩, r, q, z, d⟩
end
structure Cls (K : Frag) (C : Addr) : Prop where
 pg : plainGet K C Str.empty = true
 hd : hasDictIn K C = true
 po : plainOver K C = true
 sa : findIn K (.ref C) "__setattr__" = some (some (.builtin "object.__setattr__"))
theorem Cls.get {K : Frag} {C : Addr} (c : Cls K C) (f : Str) : plainGet K C f = true := c.pg
def cF (K : Frag) (C : Addr) (f : Str) : Prop := findIn K (.ref C) f = some none
theorem cF.taker {K : Frag} {C : Addr} {f : Str} (n : cF K C f) : takerIn K C f = some none := by
 unfold takerIn
 rw [show findIn K (.ref C) f = some none from n]
 rfl
structure Meth (K : Frag) (C : Addr) (m : Str) (f : Addr) : Prop where
 at_ : findIn K (.ref C) m = some (some (.ref f))
 fn : isFn K (.ref f) = true
 kp : keepIn K (.ref f) = true
section
variable {X : Cx} {pins : List (Addr × Obj)} {σ : St} {H : Hp} {s : Shared} {a C dx : Addr} {fs : List (Str × V)} {f : Str} {v : V} {A : Around} {E : Value -> Shared -> Prop}
theorem xQ {b : Bool} {Q : Value -> Shared -> Prop} (I : Inv X pins σ H s) (e : H a = some (.ins C dx fs)) (c : Cls X.K C) (n : cF X.K C f) (l : fs.lookup f = some v)
  (h : ∀ u s', Inv X pins σ H s' -> RelV v u -> Q u s') : wpAny (model X.prog X.w) A (getAttr (.ref a) f b) Q E s := by
 obtain ⟨mA, O, r, _, _, _⟩ := qH I.hok e
 obtain ⟨u, hu, ru⟩ := jF.some_of (v := v) (o := mA f) (by rw [<- l]; exact r f)
 exact Ga I.kIn O (c.get f) c.hd n hu (Be ru) (h u _ (I.tok _) ru)
theorem mO {m : Str} {g : Addr} {pl : Sem Bool} {Q : Value × List Value -> Shared -> Prop} (I : Inv X pins σ H s) (e : H a = some (.ins C dx fs)) (c : Cls X.K C) (k : Meth X.K C m g) (l : fs.lookup m = none)
  (h : Q (.ref g, [.ref a]) s) : wpAny (model X.prog X.w) A (getMethod (.ref a) m pl) Q E s := by
 obtain ⟨mA, O, r, _, _, _⟩ := qH I.hok e
 have hn : mA m = none := jF.none_of (by rw [<- l]; exact r m)
 exact CV I.kIn O (c.get m) k.at_ k.fn hn h
theorem yH {y : V} {u : Value} {Q : Unit -> Shared -> Prop} (I : Inv X pins σ H s) (e : H a = some (.ins C dx fs)) (c : Cls X.K C) (n : cF X.K C f) (hl : fs.length < 1000) (ry : RelV y u)
  (h : ∀ s', Inv X pins σ (upd H a (.ins C dx (jm f y fs))) s' -> Q () s') : wpAny (model X.prog X.w) A (setAttr (.ref a) f u) Q E s := by
 obtain ⟨mA, O, r, wi, _, ho⟩ := qH I.hok e
 have hz : (fs.map (·.1)).length <= sizeLine := by rw [length_map, sizeLine_eq]; omega
 refine FZ I.kIn O c.sa c.po n.taker c.hd wi hz fun h' O' sb => h _ ?_
 have hd : ∃ o, h'.get? dx = some o := let ⟨o, _, _, e', _⟩ := O'.ns; ⟨o, e'⟩
 refine I.write (x := a) (e := dx) (by rw [e]; exact True.intro) (.inr ho) (fun b q hb z => (sb.2 b hb).trans z) hd ?_
 refine ⟨by rw [aF O.ne]; exact ho, ?_, O.ne, O'.obj, _, O'.ns, fun g => ?_, fun g hg => ?_⟩
 ·have := lJ f y fs; omega
 ·show jF ((jm f y fs).lookup g) (if g = f then some u else mA g)
  rw [iM]
  by_cases q : g = f
  ·rw [if_pos q, if_pos q]; exact ry
  ·rw [if_neg q, if_neg q]; exact r g
 ·by_cases q : g = f
  ·rw [q]; exact (pF f y fs).1
  ·refine (pF f y fs).2 g (wi g fun z => hg ?_)
   show (if g = f then some u else mA g) = none
   rw [if_neg q]; exact z
theorem Inv.made (I : Inv X pins σ H s) : Inv X pins σ (upd (upd H s.heap.objs.size (.own (s.heap.objs.size + 1))) (s.heap.objs.size + 1) (.ins C s.heap.objs.size []))
  { s with heap := (s.heap.push emptyDict).push (instObj C s.heap.objs.size) } := by
 have e1 : (s.heap.push emptyDict).get? s.heap.objs.size = some emptyDict := Heap.get?_push_size s.heap rfl
 have e2 : ((s.heap.push emptyDict).push (instObj C s.heap.objs.size)).get? (s.heap.objs.size + 1) = some (instObj C s.heap.objs.size) := by
  have := Heap.get?_push_size (s.heap.push emptyDict) (o := instObj C s.heap.objs.size) rfl
  rwa [Heap.size_push] at this
 have e3 : (s.heap.push emptyDict).Ns s.heap.objs.size (fun _ => none) := ⟨emptyDict, #[], _, e1, rfl, (fun e he => absurd he Z2), fun _ => rfl⟩
 have I1 := I.laid (a := s.heap.objs.size) (o := .own (s.heap.objs.size + 1)) (h' := s.heap.push emptyDict) (t' := s.toks) (fun b u q => Heap.get?_push_of_some _ q) (le_refl _) ⟨_, e1⟩
 refine I1.laid (a := s.heap.objs.size + 1) (o := .ins C s.heap.objs.size []) (t' := s.toks) (fun b u q => Heap.get?_push_of_some _ q) (le_of_eq (Heap.size_push _ _)) ?_
 have ne : s.heap.objs.size ≠ s.heap.objs.size + 1 := ne_of_lt (Nat.lt_succ_self _)
 refine ⟨by rw [aF ne, ak], zero_le _, ne, e2, fun _ => none, (Heap.Ns1.of_empty e3).at fun o q => Heap.get?_push_of_some _ q, fun _ => True.intro, fun y hy => absurd rfl hy⟩
theorem Gi {prog : Program} {w : World} {env : Env} {e : Expr} {f : Str} {pos : Pos} {s : Shared} {Q : Value -> Shared -> Prop} (hb : attributeBase e f env (eval e env) = eval e env)
  (h : wpAny (model prog w) A (eval e env) (fun o s₁ => wpAny (model prog w) A (getAttr o f true) Q E s₁) E s) : wpAny (model prog w) A (eval (.Attribute e f pos) env) Q E s :=
 Attribute_any_ h (by rw [arm_eval_Attribute, hb])
end
def Rx (K : Frag) (ta : TE) (f : Str) : TE := fun σ H Q => ta σ H fun x H1 => ∃ a C dx fs v, x = .ref a /\ H1 a = some (.ins C dx fs) /\ Cls K C /\ cF K C f /\ fs.lookup f = some v /\ Q v H1
def Pz (K : Frag) (ta tv : TE) (f : Str) : TS := fun D σ H => tv σ H fun y H1 => ta σ H1 fun x H2 => ∃ a C dx fs, x = .ref a /\ H2 a = some (.ins C dx fs) /\ Cls K C /\ cF K C f /\ fs.length < 1000 /\
 D.nx σ (upd H2 a (.ins C dx (jm f y fs)))
section
variable {X : Cx} {o e value : Expr} {f : Str} {pos pos' tpos : Pos} {ta tv : TE}
theorem cY (he : PE X e ta) (hb : attributeBase e f X.env (eval e X.env) = eval e X.env) : PE X (.Attribute e f pos) (Rx X.K ta f) := by
 intro pins s σ H Q I h
 refine Gi hb (thn (he pins s σ H _ I h) fun u s1 hz => ?_)
 obtain ⟨x, H1, I1, rx, a, C, dx, fs, v, ex, ea, c, n, l, q⟩ := hz
 subst ex
 obtain rfl : u = Value.ref a := rx
 exact xQ I1 ea c n l fun u' s2 I2 ru => ⟨v, H1, I2, ru, q⟩
theorem Hv (ha : PE X o ta) (hv : PE X value tv) (hs : swapsWith value (some (.Attribute o f pos')) pos.line X.env = pure false) : PS X (.Assign [.Attribute o f pos'] value pos) (Pz X.K ta tv f) := by
 intro pins s σ H D I h
 refine plainObj_wpAny_Assign_Attribute (thn (hv pins s σ H _ I h) fun u s1 ⟨y, H1, I1, ry, q⟩ => thn (ha pins s1 σ H1 _ I1 q) fun ov s2 hz => ?_) hs
 obtain ⟨x, H2, I2, rx, a, C, dx, fs, ex, ea, c, n, l, q2⟩ := hz
 subst ex
 obtain rfl : ov = Value.ref a := rx
 exact yH I2 ea c n l ry fun s3 I3 => ⟨σ, _, I3, q2⟩
end
section
variable {X : Cx} {pins : List (Addr × Obj)} {σ : St} {H : Hp} {s : Shared} {A : Around} {E : Value -> Shared -> Prop} {Q : Value -> Shared -> Prop} {c : Value} {b : Bool}
inductive mC (K : Frag) (H : Hp) : V -> Value -> Prop where
 | non : mC K H .non (.type "NoneType")
 | bl (x : Bool) : mC K H (.bl x) (.type "bool")
 | int (i : Int) : mC K H (.int i) (.type "int")
 | str (x : Str) : mC K H (.str x) (.type "str")
 | flt (x : UInt64) : mC K H (.flt x) (.type "float")
 | lst {a : Addr} {xs : List V} (e : H a = some (.lst xs)) : mC K H (.ref a) (.type "list")
 | frz {a : Addr} {o : Obj} {xs : List V} (e : H a = some (.frz o (.lst xs))) : mC K H (.ref a) (.type "list")
 | tup {a : Addr} {xs : List V} (e : H a = some (.tup xs)) : mC K H (.ref a) (.type "tuple")
 | dK {a : Addr} {kvs : List (Key × V)} (e : H a = some (.dK kvs)) : mC K H (.ref a) (.type "dict")
 | dT {a : Addr} {kvs : List (List Key × V)} (e : H a = some (.dT kvs)) : mC K H (.ref a) (.type "dict")
 | ins {a C dx : Addr} {fs : List (Str × V)} (e : H a = some (.ins C dx fs)) (cl : Cls K C) (ha : findIn K (.ref C) "__class__" = some (some (.builtin "object.__class__")))
   (hn : specialIn K (.builtin "object.__class__") "__get__" = some (some (.builtin "getset_descriptor.__get__"))) (htk : takesIn K (.builtin "object.__class__") = some true)
   (hm : mroIn K C (.type "object") = some true) : mC K H (.ref a) (.ref C)
theorem uh {x : V} {u t : Value} (I : Inv X pins σ H s) (rx : RelV x u) (ty : mC X.K H x t) (e : kitOne X.K t c = some b) (h : ∀ tk, Q (.bool b) { s with toks := tk }) :
  wpAny (model X.prog X.w) A (call (.builtin "isinstance") [u, c]) Q E s := by
 cases ty with
 | non => cases (show u = Value.none from rx); exact kia_one PySem.W.kitx_none I.kIn True.intro e (fun z => nomatch z) h
 | bl y => cases (show u = Value.bool y from rx); exact kia_one PySem.W.kitx_bool I.kIn True.intro e (fun z => nomatch z) h
 | int i => obtain ⟨t, q⟩ := (show ∃ t, u = Value.int i t from rx); cases q; exact kia_one PySem.W.kitx_int I.kIn True.intro e (fun z => nomatch z) h
 | str y => obtain ⟨t, q⟩ := (show ∃ t, u = Value.str y t from rx); cases q; exact kia_one PySem.W.kitx_str I.kIn True.intro e (fun z => nomatch z) h
 | flt y => obtain ⟨t, q⟩ := (show ∃ t, u = Value.float y t from rx); cases q; exact kia_one PySem.W.kitx_float I.kIn True.intro e (fun z => nomatch z) h
 | @lst a xs ea =>
  cases (show u = Value.ref a from rx)
  obtain ⟨_, _, n, _, h1⟩ := (show bF X.prog X.w H s.heap a (.lst xs) from I.hok a _ ea)
  exact kia_one kitx_list I.kIn ⟨_, h1, rfl⟩ e (fun z => nomatch z) h
 | @frz a ob xs ea =>
  cases (show u = Value.ref a from rx)
  obtain ⟨_, _, _, n, _, h1⟩ := (show bF X.prog X.w H s.heap a (.frz ob (.lst xs)) from I.hok a _ ea)
  exact kia_one kitx_list I.kIn ⟨_, h1, rfl⟩ e (fun z => nomatch z) h
 | @tup a xs ea =>
  cases (show u = Value.ref a from rx)
  obtain ⟨_, _, _, p⟩ := (show bF X.prog X.w H s.heap a (.tup xs) from I.hok a _ ea)
  obtain ⟨o, h1, h2, _⟩ := p
  exact kia_one PySem.W.kitx_tuple I.kIn ⟨o, h1, h2⟩ e (fun z => nomatch z) h
 | @dK a kvs ea =>
  cases (show u = Value.ref a from rx)
  obtain ⟨_, _, vs, _, p⟩ := (show bF X.prog X.w H s.heap a (.dK kvs) from I.hok a _ ea)
  obtain ⟨o, es, ep, h1, h2, _⟩ := p
  exact kia_one kitx_dict I.kIn ⟨o, h1, h2.1⟩ e (fun z => nomatch z) h
 | @dT a kvs ea =>
  cases (show u = Value.ref a from rx)
  obtain ⟨_, _, xs, _, o, es, ep, h1, h2, _⟩ := (show bF X.prog X.w H s.heap a (.dT kvs) from I.hok a _ ea)
  exact kia_one kitx_dict I.kIn ⟨o, h1, h2.1⟩ e (fun z => nomatch z) h
 | @ins a C dx fs ea cl ha hn htk hm =>
  cases (show u = Value.ref a from rx)
  obtain ⟨mA, O, _⟩ := qH I.hok ea
  obtain ⟨od, J, _⟩ := O.look
  exact kia_one (PySem.W.kitx_own (cl.get _) cl.hd ha hn htk hm) I.kIn J e (fun z => nomatch z) h
end
structure aP (k : Nat) (A : Around) : Prop where
 hd : A.handled = none
 dp : A.depth + 3 * k + 5 < recursionLimit
 un : A.units + 16 * k + 200 < cLine
theorem aP.mono {j k : Nat} {A : Around} (r : aP k A) (h : j <= k) : aP j A := ⟨r.hd, by have := r.dp; omega, by have := r.un; omega⟩
theorem aP.deeper {k : Nat} {A : Around} (r : aP (k + 1) A) (env : Env) : aP k (A.deeper env) :=
 ⟨r.hd, by have := r.dp; show A.depth + 1 + 3 * k + 5 < _; omega, by have := r.un; show A.units + 3 + 16 * k + 200 < _; omega⟩
theorem yQ {A : Around} {C : Addr} {us : List Value} {kw : List (Str × Value)} : (A.under (.builtin "type.__call__" ⟨.ref C :: us, kw⟩)).depth = A.depth + 1 := by
 first | rfl | simp [Around.under, Code.weight, Code.isCreation, Code.isGuard, Code.isCaller, Code.frames, Code.isFrame, guardIds]
theorem yu {A : Around} {C : Addr} {us : List Value} {kw : List (Str × Value)} : (A.under (.builtin "type.__call__" ⟨.ref C :: us, kw⟩)).units = A.units + 1 := by
 first | rfl | simp [Around.under, Code.cUnits, Code.frames, Code.isFrame]
theorem aP.make {k : Nat} {A : Around} (r : aP (k + 1) A) (C : Addr) (us : List Value) (kw : List (Str × Value)) : aP k (A.under (.builtin "type.__call__" ⟨.ref C :: us, kw⟩)) :=
 ⟨r.hd, by have := r.dp; rw [yQ]; omega, by have := r.un; rw [yu]; omega⟩
theorem aP.depth {k : Nat} {A : Around} (r : aP k A) : A.depth < recursionLimit := by have := r.dp; omega
theorem aP.units {k : Nat} {A : Around} (r : aP k A) : A.units + 64 < cLine := by have := r.un; omega
def HJ : TA := fun _ H Q => Q [] H
def Hq (ta : TE) (tr : TA) : TA := fun σ H Q => ta σ H fun x H1 => tr σ H1 fun xs H2 => Q (x :: xs) H2
section
variable {X : Cx} {e : Expr} {es : List Expr} {te : TE} {t : TA} {pos : Pos}
theorem aq : PA X [] HJ := fun _ _ _ _ H Q I h => Calls.spliced_nil ⟨[], H, I, .nil, h⟩
theorem aj (ha : PE X e te) (hr : PA X es t) (hs : starEach (e :: es) X.env = (false, eval e X.env) :: starEach es X.env := by rfl) : PA X (e :: es) (Hq te t) := by
 intro pos pins s σ H Q I h
 rw [hs]
 show wpAny _ _ (spliced ((false, eval e X.env) :: backTo pos (starEach es X.env))) _ _ s
 refine Calls.spliced_cons (thn (ha pins s σ H _ I h) fun u s1 ⟨x, H1, I1, r1, q1⟩ => ?_)
 exact thn (hr pos pins s1 σ H1 _ I1 q1) fun us s2 ⟨xs, H2, I2, r2, q2⟩ => ⟨x :: xs, H2, I2, .cons r1 r2, q2⟩
def Vl (t : TA) : TE := fun σ H Q => t σ H fun xs H1 => xs.length <= sizeLine /\ ∀ p, H1 p = none -> Q (.ref p) (upd H1 p (.tup xs))
def IV (t : TA) : TE := fun σ H Q => t σ H fun xs H1 => xs.length <= sizeLine /\ ∀ p, H1 p = none -> Q (.ref p) (upd H1 p (.lst xs))
theorem iu {x1} (h : PA X es t) : PE X (.Tuple es x1 pos) (Vl t) := by
 intro pins s σ H Q I hq
 refine wpAny_Tuple_spliced (thn (h pos pins s σ H _ I hq) fun us s1 ⟨xs, H1, I1, r, z, q⟩ => ⟨by rw [<- r.length]; exact z, ?_⟩)
 have hf : H1 s1.heap.objs.size = none := I1.hok.fresh (le_refl _)
 refine ⟨.ref s1.heap.objs.size, upd H1 s1.heap.objs.size (.tup xs), I1.laid (t' := s1.toks) (fun b u e => Heap.get?_push_of_some _ e) (le_refl _) ?_, rfl, q _ hf⟩
 exact ⟨z, us, r, ⟨_, Heap.get?_push_size _ rfl, rfl, _, rfl⟩⟩
theorem bz (h : PA X es t) : PE X (.List es pos) (IV t) := by
 intro pins s σ H Q I hq
 refine wpAny_List_spliced (thn (h pos pins s σ H _ I hq) fun us s1 ⟨xs, H1, I1, r, z, q⟩ => ⟨by rw [<- r.length]; exact z, ?_⟩)
 have hf : H1 s1.heap.objs.size = none := I1.hok.fresh (le_refl _)
 refine ⟨.ref s1.heap.objs.size, upd H1 s1.heap.objs.size (.lst xs), I1.laid (t' := s1.toks) (fun b u e => Heap.get?_push_of_some _ e) (le_refl _) ?_, rfl, q _ hf⟩
 exact ⟨z, us, 0, r, Heap.get?_push_size _ rfl⟩
end
abbrev Sp := List V -> Hp -> VK -> XK -> Prop
abbrev CXT := List Env -> Hp -> Shared -> XK -> Value -> Shared -> Prop
structure yJ (P : Program) (w : World) (K : Frag) (mg : Str -> Option Value) (base : Heap) (A : Around) (outer : List Env) (s : Shared) (H : Hp) : Prop where
 frames : A.frames = some outer
 mod : Mod K mg base
 bs : ∀ b o, base.get? b = some o -> s.heap.get? b = some o /\ H b = none
 bsz : base.objs.size <= s.heap.objs.size
 funs : s.heap.FunFrames base outer
 frf : ∀ b ∈ frs outer, H b = none
 hok : HOk P w H s.heap
 bare : AllBare s.gens
def CE (outer : List Env) (P : Program) (w : World) (H : Hp) (s : Shared) (Q : VK) (u : Value) (s' : Shared) : Prop :=
 ∃ v H', s'.os = s.os /\ AllBare s'.gens /\ Un (frs outer) [] H H' s.heap s'.heap /\ HOk P w H' s'.heap /\ RelV v u /\ Q v H'
def CR (CX : CXT) (outer : List Env) (P : Program) (w : World) (H : Hp) (s : Shared) (Q : VK) (E : XK) (r : Result) (s' : Shared) : Prop :=
 match r with
 | .ok (.ret u) => CE outer P w H s Q u s'
 | .ok _ => False
 | .error e => CX outer H s E e s'
structure aM (P : Program) (w : World) (K : Frag) (mg : Str -> Option Value) (base : Heap) (CX : CXT) (k : Nat) (f : Addr) (fd : FuncData) (ps : List Str) (sp : Sp) : Prop where
 len : ∀ vs H Q E, sp vs H Q E -> vs.length = ps.length
 run : ∀ (A : Around) (outer : List Env) (s : Shared) (H : Hp) (args : Args) (us : List Value) (vs : List V) (Q : VK) (E : XK), aP k A -> yJ P w K mg base A outer s H -> BindsTo s fd args (ps.zip us) -> Vals vs us -> sp vs H Q E ->
  codeAny (model P w) A (.call (.ref f) args) (CR CX outer P w H s Q E) s
theorem aM.mono {P : Program} {w : World} {K : Frag} {mg : Str -> Option Value} {base : Heap} {CX : CXT} {j k : Nat} {f : Addr} {fd : FuncData} {ps : List Str} {sp : Sp} (F : aM P w K mg base CX j f fd ps sp) (h : j <= k) :
  aM P w K mg base CX k f fd ps sp := ⟨F.len, fun A outer s H args us vs Q E hr => F.run A outer s H args us vs Q E (hr.mono h)⟩
theorem aM.imp {P : Program} {w : World} {K : Frag} {mg : Str -> Option Value} {base : Heap} {CX : CXT} {k : Nat} {f : Addr} {fd : FuncData} {ps : List Str} {sp sp' : Sp} (F : aM P w K mg base CX k f fd ps sp)
  (h : ∀ vs H Q E, sp' vs H Q E -> sp vs H Q E) : aM P w K mg base CX k f fd ps sp' :=
 ⟨fun vs H Q E q => F.len vs H Q E (h _ _ _ _ q), fun A outer s H args us vs Q E hr he hb hv hs => F.run A outer s H args us vs Q E hr he hb hv (h _ _ _ _ hs)⟩
theorem yJ.make {P : Program} {w : World} {K : Frag} {mg : Str -> Option Value} {base : Heap} {A : Around} {outer : List Env} {s : Shared} {H : Hp} (e : yJ P w K mg base A outer s H) (C : Addr) (us : List Value) (kw : List (Str × Value)) :
  yJ P w K mg base (A.under (.builtin "type.__call__" ⟨.ref C :: us, kw⟩)) outer s H := ⟨by first | exact e.frames | (simpa [Around.under, Code.envs, Code.isFrame, pushEnvs] using e.frames), e.mod, e.bs, e.bsz, e.funs, e.frf, e.hok, e.bare⟩
section
variable {X : Cx} {pins : List (Addr × Obj)} {σ : St} {H : Hp} {s s' : Shared}
theorem Inv.env0 (I : Inv X pins σ H s) : yJ X.prog X.w X.K X.mg X.base X.A X.stack s H :=
 ⟨I.ok.frames, I.ok.mod, I.bs, le_trans I.ok.bsz I.sz, I.stack, I.stkFree, I.hok, I.bare⟩
theorem Inv.after {Q : VK} {u : Value} (I : Inv X pins σ H s) (h : CE X.stack X.prog X.w H s Q u s') : EP X pins σ Q u s' := by
 obtain ⟨v, H', os, bare, un, hok, r, q⟩ := h
 obtain ⟨hh, g, d, t, os'⟩ := s'
 obtain rfl : os' = s.os := os
 exact ⟨v, H', I.call (h' := hh) (g' := g) (d' := d) (t' := t) (ch := []) un hok bare (fun b z => absurd z Z2), r, q⟩
end
def G5 (sp : Sp) (dvs : List V) (E : XK) (t : TA) : TE := fun σ H Q => t σ H fun vs H1 => sp (vs ++ dvs) H1 Q E
def LR (C : Addr) (m : Str) (sp : Sp) (dvs : List V) (E : XK) (ta : TE) (t : TA) : TE := fun σ H Q => ta σ H fun x H1 => ∃ a dx fs, x = .ref a /\ H1 a = some (.ins C dx fs) /\ fs.lookup m = none /\
 t σ H1 fun vs H2 => sp (x :: (vs ++ dvs)) H2 Q E
def Hf (C : Addr) (sp : Sp) (dvs : List V) (E : XK) (t : TA) : TE := fun σ H Q => t σ H fun vs H1 => ∀ x dx, H1 x = none -> H1 dx = none -> dx ≠ x ->
 sp (.ref x :: (vs ++ dvs)) (upd (upd H1 dx (.own x)) x (.ins C dx [])) (fun v H2 => v = .non /\ Q (.ref x) H2) E
def Binds (K : Frag) (fd : FuncData) (ps : List Str) (ds : List Value) : Prop :=
 ∀ (s : Shared) (us : List Value), K.In s.heap -> (us ++ ds).length = ps.length -> BindsTo s fd ⟨us, []⟩ (ps.zip (us ++ ds))
theorem Binds.all {K : Frag} {fd : FuncData} {ps : List Str} (h : ∀ us : List Value, us.length = ps.length -> bindArgs fd ⟨us, []⟩ = pure (ps.zip us)) : Binds K fd ps [] := fun s us _ hl => by
 rw [append_nil] at hl ⊢
 exact .of_eq (h us hl)
def jM (CX : CXT) (X : Cx) (E : XK) : Prop := ∀ (pins : List (Addr × Obj)) (σ : St) (H : Hp) (s : Shared) (e : Value) (s' : Shared), Inv X pins σ H s -> CX X.stack H s E e s' -> X.xe e s'
section
variable {X : Cx} {CX : CXT} {k : Nat} {f C : Addr} {fd : FuncData} {ps : List Str} {sp : Sp} {dvs : List V} {ds : List Value} {E : XK} {x m : Str} {p pos apos : Pos} {e o : Expr} {es : List Expr} {ta : TE} {t : TA}
theorem yC {pins : List (Addr × Obj)} {σ : St} {H : Hp} {s : Shared} {Q : VK} {us : List Value} {vs : List V} (F : aM X.prog X.w X.K X.mg X.base CX k f fd ps sp) (hr : aP k X.A) (hb : Binds X.K fd ps ds) (hd : Vals dvs ds) (hx : jM CX X E)
  (I : Inv X pins σ H s) (r : Vals vs us) (h : sp (vs ++ dvs) H Q E) : wpAny (model X.prog X.w) X.A (call (.ref f) us) (EP X pins σ Q) X.xe s := by
 have r2 : Vals (vs ++ dvs) (us ++ ds) := r.append hd
 have hl : (us ++ ds).length = ps.length := by rw [<- r2.length]; exact F.len _ _ _ _ h
 refine wpAny_call (codeAny_mono (F.run X.A X.stack s H ⟨us, []⟩ (us ++ ds) (vs ++ dvs) Q E hr I.env0 (hb s us I.kIn hl) r2 h) fun r s' hq => ?_)
 cases r with
 | error e => exact hx pins σ H s e s' I hq
 | ok fl =>
  cases fl with
  | ret u => exact I.after hq
  | next => exact False.elim hq
  | brk => exact False.elim hq
  | cont => exact False.elim hq
theorem FQ (F : aM X.prog X.w X.K X.mg X.base CX k f fd ps sp) (hr : aP k X.A) (hg : Gl X x) (hm : X.mg x = some (.ref f)) (hk : keepIn X.K (.ref f) = true) (hb : Binds X.K fd ps ds) (hd : Vals dvs ds) (hx : jM CX X E)
  (ha : PA X (e :: es) t) (hdb : (x == ("__debug__" : Str)) = false := by decide) (he : starEach (e :: es) X.env = (false, eval e X.env) :: starEach es X.env := by rfl) (hpl : (backTo pos (starEach es X.env)).any (·.1) = false := by rfl) :
  PE X (.Call (.Name x p) (e :: es) [] pos) (G5 sp dvs E t) := by
 intro pins s σ H Q I h
 refine wpAny_Call_Name_kw (lR I hg hm ?_ hdb)
 refine callWith_K (h₀ := X.base) I.ok.mod.kin hk (thn (ha pos pins s σ H _ I h) fun us s1 ⟨vs, H1, I1, r, q⟩ => ⟨I1.kIn, ?_⟩) he hpl
 exact yC F hr hb hd hx I1 r q
theorem sJ {pl : Sem Bool} (he : PE X o ta) (c : Cls X.K C) (hm : Meth X.K C m f) (F : aM X.prog X.w X.K X.mg X.base CX k f fd ps sp) (hr : aP k X.A) (hb : Binds X.K fd ps ds) (hd : Vals dvs ds) (hx : jM CX X E)
  (ht : eval (.Call (.Attribute o m apos) [] [] pos) X.env = (do
   let ov <- eval o X.env
   standAt apos.atName
   let (f, first) <- holding [ov] (getMethod ov m pl)
   callWith pos f first (backTo pos (starEach [] X.env)) (backToKw pos (keywordEach [] X.env))) := by rfl) :
  PE X (.Call (.Attribute o m apos) [] [] pos) (LR C m sp dvs E ta HJ) := by
 intro pins s σ H Q I h
 refine methodCall_KW (pl := pl) (thn (he pins s σ H _ I h) fun u s1 ⟨x, H1, I1, rx, a, dx, fs, ex, ea, l, q⟩ => ?_) ht
 subst ex
 obtain rfl : u = Value.ref a := rx
 refine mO I1 ea c hm l ?_
 exact PySem.W.callWith_K0 (first := [.ref a]) I1.kIn hm.kp (yC (us := [.ref a]) (vs := [.ref a]) F hr hb hd hx I1 (.cons rfl .nil) q)
structure Mk (K : Frag) (C f : Addr) : Prop where
 makes : makesIn K C = true
 init : findIn K (.ref C) "__init__" = some (some (.ref f))
 fn : isFn K (.ref f) = true
 kp : keepIn K (.ref C) = true
theorem CP {pins : List (Addr × Obj)} {σ : St} {H : Hp} {s : Shared} {Q : VK} {us : List Value} {vs : List V} (M : Mk X.K C f) (F : aM X.prog X.w X.K X.mg X.base CX k f fd ps sp) (hr : aP (k + 1) X.A) (hb : Binds X.K fd ps ds) (hd : Vals dvs ds)
  (hx : jM CX X E) (I : Inv X pins σ H s) (r : Vals vs us)
  (h : ∀ x dx, H x = none -> H dx = none -> dx ≠ x -> sp (.ref x :: (vs ++ dvs)) (upd (upd H dx (.own x)) x (.ins C dx [])) (fun v H2 => v = .non /\ Q (.ref x) H2) E) :
  wpAny (model X.prog X.w) X.A (call (.ref C) us) (EP X pins σ Q) X.xe s := by
 have hq := h (s.heap.objs.size + 1) s.heap.objs.size (I.hok.fresh (le_succ _)) (I.hok.fresh (le_refl _)) (ne_of_lt (Nat.lt_succ_self _))
 have I2 := Inv.made (C := C) I
 have r2 : Vals (V.ref (s.heap.objs.size + 1) :: (vs ++ dvs)) (Value.ref (s.heap.objs.size + 1) :: (us ++ ds)) := .cons rfl (r.append hd)
 have hl : (Value.ref (s.heap.objs.size + 1) :: us ++ ds).length = ps.length := by
  have e := r2.length
  rw [F.len _ _ _ _ hq] at e
  exact e.symm
 refine wpAny_call (Cy (f := f) I.kIn M.makes M.init (beq_iff_eq.mp M.fn) (codeAny_mono (F.run _ X.stack _ _ ⟨Value.ref (s.heap.objs.size + 1) :: us, []⟩ (Value.ref (s.heap.objs.size + 1) :: (us ++ ds)) _ _ E (hr.make C us [])
  (I2.env0.make C us []) (hb _ (Value.ref (s.heap.objs.size + 1) :: us) I2.kIn hl) r2 hq) fun r s' hq' => ?_))
 cases r with
 | error e => exact hx pins σ _ _ e s' I2 hq'
 | ok fl =>
  cases fl with
  | ret u =>
   obtain ⟨v, H', I3, rv, ev, q3⟩ := I2.after hq'
   subst ev
   exact ⟨rv, ⟨V.ref (s.heap.objs.size + 1), H', I3, rfl, q3⟩⟩
  | next => exact False.elim hq'
  | brk => exact False.elim hq'
  | cont => exact False.elim hq'
theorem GP (M : Mk X.K C f) (F : aM X.prog X.w X.K X.mg X.base CX k f fd ps sp) (hr : aP (k + 1) X.A) (hg : Gl X x) (hm : X.mg x = some (.ref C)) (hb : Binds X.K fd ps ds) (hd : Vals dvs ds) (hx : jM CX X E)
  (ha : PA X (e :: es) t) (hdb : (x == ("__debug__" : Str)) = false := by decide) (he : starEach (e :: es) X.env = (false, eval e X.env) :: starEach es X.env := by rfl) (hpl : (backTo pos (starEach es X.env)).any (·.1) = false := by rfl) :
  PE X (.Call (.Name x p) (e :: es) [] pos) (Hf C sp dvs E t) := by
 intro pins s σ H Q I h
 refine wpAny_Call_Name_kw (lR I hg hm ?_ hdb)
 refine callWith_K (h₀ := X.base) I.ok.mod.kin M.kp (thn (ha pos pins s σ H _ I h) fun us s1 ⟨vs, H1, I1, r, q⟩ => ⟨I1.kIn, ?_⟩) he hpl
 exact CP M F hr hb hd hx I1 r q
end
section
variable {X : Cx} {CX : CXT} {k : Nat} {f C : Addr} {fd : FuncData} {ps ks : List Str} {sp : Sp} {E : XK} {x m : Str} {p pos apos kpos : Pos} {e o : Expr} {es : List Expr} {kws : List Keyword} {te ta : TE} {t tk : TA} {nm : Option Str}
variable {g : List Value -> List Value -> List Value} {gV : List V -> List V -> List V}
end
structure aH (N P : List Str) (sc : Scope) : Prop where
 kind : sc.kind = .function
 co : sc.isCoroutine = false
 gen : sc.isGenerator = false
 nd : N.Nodup
 pre : N.take P.length = P
 par : ∀ x ∈ P, sc.names.lookup x = some .local \/ sc.names.lookup x = some .cell
 nofree : ∀ y ∈ sc.names, y.2 ≠ .free
theorem uo {kindOf : Str -> Option NameKind} {x : Str} : ∀ {binds : List (Str × Value)} {m : Str -> Option Value}, (∀ v, (x, v) ∉ binds) -> bindL kindOf binds m x = m x
 | [], _, _ => rfl
 | (n, v) :: r, m, h => by
  unfold bindL
  rw [uo fun w hw => h w (mem_cons_of_mem _ hw)]
  split
  ·have : x ≠ n := by rintro rfl; exact h v mem_cons_self
   simp [this]
  ·rfl
theorem tQ {kindOf : Str -> Option NameKind} {x : Str} : ∀ {binds : List (Str × Value)} {m : Str -> Option Value}, (∀ v, (x, v) ∉ binds) -> bindC kindOf binds m x = m x
 | [], _, _ => rfl
 | (n, v) :: r, m, h => by
  unfold bindC
  rw [tQ fun w hw => h w (mem_cons_of_mem _ hw)]
  split
  ·rfl
  ·have : x ≠ n := by rintro rfl; exact h v mem_cons_self
   simp [this]
theorem t8 {kindOf : Str -> Option NameKind} {x : Str} {v : Value} : ∀ {P : List Str} {vs : List Value} {i : Nat} {m : Str -> Option Value}, P.Nodup -> P[i]? = some x -> vs[i]? = some v -> kindOf x = some .local ->
  bindL kindOf (P.zip vs) m x = some v
 | [], _, _, _, _, h, _, _ => by simp at h
 | _ :: _, [], _, _, _, _, h, _ => by simp at h
 | p :: P, w :: vs, 0, m, nd, h1, h2, hk => by
  simp at h1 h2; subst h1; subst h2
  show bindL kindOf ((p, w) :: P.zip vs) m p = _
  unfold bindL
  rw [uo fun v hv => (nodup_cons.mp nd).1 (List.of_mem_zip hv).1, if_pos hk]
  simp
 | p :: P, w :: vs, i + 1, m, nd, h1, h2, hk => by
  show bindL kindOf ((p, w) :: P.zip vs) m x = _
  unfold bindL
  exact t8 (i := i) (nodup_cons.mp nd).2 (by simpa using h1) (by simpa using h2) hk
theorem ud {kindOf : Str -> Option NameKind} {x : Str} {v : Value} : ∀ {P : List Str} {vs : List Value} {i : Nat} {m : Str -> Option Value}, P.Nodup -> P[i]? = some x -> vs[i]? = some v -> kindOf x ≠ some .local ->
  bindC kindOf (P.zip vs) m x = some v
 | [], _, _, _, _, h, _, _ => by simp at h
 | _ :: _, [], _, _, _, _, h, _ => by simp at h
 | p :: P, w :: vs, 0, m, nd, h1, h2, hk => by
  simp at h1 h2; subst h1; subst h2
  show bindC kindOf ((p, w) :: P.zip vs) m p = _
  unfold bindC
  rw [tQ fun v hv => (nodup_cons.mp nd).1 (List.of_mem_zip hv).1, if_neg hk]
  simp
 | p :: P, w :: vs, i + 1, m, nd, h1, h2, hk => by
  show bindC kindOf ((p, w) :: P.zip vs) m x = _
  unfold bindC
  exact ud (i := i) (nodup_cons.mp nd).2 (by simpa using h1) (by simpa using h2) hk
def start (N : List Str) (vs : List V) : St := vs.map some ++ List.replicate (N.length - vs.length) none
def m9 (CX : CXT) (P : Program) (w : World) (K : Frag) (mg : Str -> Option Value) (base : Heap) (N : List Str) (qual : Str) (scope : Scope) (f : Addr) (cd : Value) (A : Around) (outer : List Env) (s : Shared) (H : Hp) (E : XK) : Cx where
 prog := P
 w := w
 K := K
 mg := mg
 base := base
 A := A.deeper (envOfC qual scope s.heap.objs.size f cd)
 N := N
 s₀ := s
 H₀ := H
 env := envOfC qual scope s.heap.objs.size f cd
 outer := outer
 stack := envOfC qual scope s.heap.objs.size f cd :: outer
 ex := []
 calm := true
 fn := fun _ => true
 pn := []
 xe := fun e s' => wpAny (model P w) (A.deeper (envOfC qual scope s.heap.objs.size f cd)) («leaving» (envOfC qual scope s.heap.objs.size f cd) e) (fun _ s'' => CX outer H s E e s'') (fun e' s'' => CX outer H s E e' s'') s'
theorem wV {sc : Scope} {n : Nat} {x : Str} (h : sc.names.lookup x = some .cell) : ∃ c, (cellsFrom n sc.names []).lookup x = some c := by
 have q := PySem.W.cellsFrom_some sc.names n [] (.inl h)
 exact Option.isSome_iff_exists.mp q
theorem Az {CX : CXT} {P : Program} {w : World} {K : Frag} {mg : Str -> Option Value} {base : Heap} {N ps : List Str} {qual : Str} {scope : Scope} {f : Addr} {cd : Value} {A : Around} {outer : List Env} {s s1 : Shared} {H : Hp} {E : XK} {us : List Value} {vs : List V}
  (S : aH N ps scope) (hd : A.handled = none) (e0 : yJ P w K mg base A outer s H) (hl : vs.length = ps.length) (r : Vals vs us)
  (x : InCallC s s.heap.objs.size (bindL (envOfC qual scope s.heap.objs.size f cd).kindOf (ps.zip us) fun _ => none) (cellsFrom (s.heap.objs.size + 1) scope.names []) (bindC (envOfC qual scope s.heap.objs.size f cd).kindOf (ps.zip us) fun _ => none) s1) :
  Inv (m9 CX P w K mg base N qual scope f cd A outer s H E) [] (start N vs) H s1 := by
 have hpl : ps.length <= N.length := by have := congrArg List.length S.pre; rw [length_take] at this; omega
 obtain ⟨h1, tk, rfl, hk⟩ := x.done
 have noA : ∀ b : Addr, b ∉ (m9 CX P w K mg base N qual scope f cd A outer s H E).ex := fun b z => absurd (show b ∈ ([] : List Addr) from z) Z2
 refine ⟨⟨e0.mod, S.kind, rfl, rfl, le_refl _, fun y z c h1 h2 => ?_, fun y hy => ?_, fun y c _ h => ?_, fun _ => hd, Around.frames_deeper e0.frames, .inr ⟨rfl, rfl⟩, fun b z => absurd z (noA b), e0.bs, e0.bsz, fun b _ _ => noA b, fun b z => absurd z (noA b), e0.funs, e0.frf⟩,
  rfl, e0.bare, Un.kept hk, ⟨_, x.toInCall.ns, fun i y v h1 h2 h3 => ?_⟩, fun y c h => ⟨_, x.cell y c h⟩, e0.hok.fresh (le_refl _), fun y c h => ?_, fun p hp => absurd (show p ∈ ([] : List (Addr × Obj)) from hp) Z2, e0.hok.kept hk, ?_⟩
 ·exact name_of_addr x.apart (PySem.mem_of_lookup h1) (PySem.mem_of_lookup h2)
 ·have hy : scope.names.lookup y = some .cell \/ scope.names.lookup y = some .free := hy
  rcases hy with hy | hy
  ·exact wV hy
  ·exact absurd rfl (S.nofree _ (PySem.mem_of_lookup hy))
 ·exact le_of_lt (x.above y c (PySem.mem_of_lookup h))
 ·have hi : i < vs.length := by
   unfold start at h2
   by_cases hi : i < vs.length
   ·exact hi
   ·rw [getElem?_append_right (by simpa using hi)] at h2
    rw [List.getElem?_replicate] at h2
    split at h2 <;> cases h2
  have ha : vs[i]? = some v := by
   unfold start at h2
   rw [getElem?_append_left (by simpa using hi), getElem?_map] at h2
   cases e : vs[i]? with
   | none => rw [e] at h2; cases h2
   | some a => rw [e] at h2; cases h2; rfl
  obtain ⟨u, hu, rv⟩ := r.get ha
  have hp : ps[i]? = some y := by
   rw [<- S.pre, List.getElem?_take_of_lt Z1]; exact h1
  have ndP : ps.Nodup := by rw [<- S.pre]; exact S.nd.sublist (List.take_sublist _ _)
  refine ⟨u, rv, ?_⟩
  rcases S.par y (mem_of_getElem? hp) with k | k
  ·exact .inl ⟨k, t8 ndP hp hu k⟩
  ·obtain ⟨c, e⟩ := wV (n := s.heap.objs.size + 1) k
   refine .inr ⟨.inl k, c, e, ?_⟩
   have q := x.cell y c e
   rw [ud ndP hp hu (by show scope.names.lookup y ≠ _; rw [k]; decide)] at q
   exact q
 ·exact e0.hok.fresh (le_of_lt (x.above y c (PySem.mem_of_lookup h)))
 ·unfold start
  show _ = N.length
  rw [length_append, length_map, List.length_replicate]
  omega
theorem Hg {CX : CXT} {P : Program} {w : World} {K : Frag} {mg : Str -> Option Value} {base : Heap} {k : Nat} {f : Addr} {name qual : Str} {params : Arguments} {body : List Stmt} {scope : Scope} {dV kV doc pm cdv ct oc : Value} {an od : Option Addr}
  {osl : Array (Option Value)} {N ps : List Str} {sp : Sp} (lk : K.lookup f = some ⟨oc, od, .func (fnOf name qual params body scope dV kV doc pm an cdv ct), osl⟩) (hcd : codeIn K cdv qual = true) (S : aH N ps scope)
  (len : ∀ vs H Q E, sp vs H Q E -> vs.length = ps.length)
  (hbody : ∀ (A : Around) (outer : List Env) (s : Shared) (H : Hp) (vs : List V) (Q : VK) (E : XK), aP k (A.deeper (envOfC qual scope s.heap.objs.size f cdv)) -> sp vs H Q E ->
   ∃ t, PSs (m9 CX P w K mg base N qual scope f cdv A outer s H E) body t /\ t { nx := fun _ H' => Q .non H', rt := Q } (start N vs) H) :
  aM P w K mg base CX (k + 1) f (fnOf name qual params body scope dV kV doc pm an cdv ct) ps sp := by
 refine ⟨len, fun A outer s H args us vs Q E hr e0 hb r hsp => ?_⟩
 have hl := len _ _ _ _ hsp
 have KX : K.In s.heap := e0.mod.kin.keeps fun b o e => (e0.bs b o e).1
 have lim : s.heap.NoLimit := e0.mod.nolimit.keeps fun b o e => (e0.bs b o e).1
 have hkind : ∀ y ∈ ps.zip us, scope.names.lookup y.1 = some .local \/ (scope.names.lookup y.1 = some .cell /\ ((cellsFrom (s.heap.objs.size + 1) scope.names []).lookup y.1).isSome = true) := fun ⟨n, v⟩ hy => by
  rcases S.par n (List.of_mem_zip hy).1 with q | q
  ·exact .inl q
  ·exact .inr ⟨q, PySem.W.cellsFrom_some _ _ _ (.inl q)⟩
 refine codeAny_call_function hr.depth (KX _ _ lk) rfl S.co S.gen rfl (PySem.W.codeRec_of KX hcd) (hb _ _ _ _ ?_)
 refine wpAny_newFunctionEnv_cells S.kind hkind fun env he s1 x => ?_
 subst he
 refine ⟨lim.keeps x.toInCall.keep, codeAny_func ?_⟩
 obtain ⟨t, ht, hq⟩ := hbody A outer s H vs Q E (hr.deeper _) hsp
 have I : Inv (m9 CX P w K mg base N qual scope f cdv A outer s H E) [] (start N vs) H s1 := Az S hr.hd e0 hl r x
 refine wpAny_mono (ht [] s1 (start N vs) H _ I hq) (fun fl s' hs => ?_) fun e s' hs => hs
 have fin : ∀ {σ' : St} {H' : Hp} {v : V} {u : Value}, Inv (m9 CX P w K mg base N qual scope f cdv A outer s H E) [] σ' H' s' -> RelV v u -> Q v H' -> CE outer P w H s Q u s' :=
  fun {σ' H' v u} J rv q => ⟨v, H', J.os, J.bare, J.base, J.hok, rv, q⟩
 cases fl with
 | ret u =>
  obtain ⟨v, σ', H', J, rv, q⟩ := hs
  exact fin J rv q
 | next =>
  obtain ⟨σ', H', J, q⟩ := hs
  exact fin (v := V.non) (u := Value.none) J rfl q
 | brk =>
  obtain ⟨_, _, _, q⟩ := hs
  exact False.elim q
 | cont =>
  obtain ⟨_, _, _, q⟩ := hs
  exact False.elim q
section
variable {X : Cx} {x : Str} {p pos : Pos} {e : Expr} {es : List Expr} {t : TA} {id T : String} {r : List V -> Hp -> VK -> Prop}
def tCB (r : List V -> Hp -> VK -> Prop) (t : TA) : TE := fun σ H Q => t σ H fun vs H1 => r vs H1 Q
theorem aX (hc : kE X (.builtin id) r) (hg : Gl X x) (hm : X.mg x = none) (hv : bootBuiltins x = some (.builtin id)) (ha : PA X (e :: es) t) (hn : x ≠ "__name__" := by decide) (hdb : (x == ("__debug__" : Str)) = false := by decide)
  (he : starEach (e :: es) X.env = (false, eval e X.env) :: starEach es X.env := by rfl) (hpl : (backTo pos (starEach es X.env)).any (·.1) = false := by rfl) : PE X (.Call (.Name x p) (e :: es) [] pos) (tCB r t) := by
 intro pins s σ H Q I h
 refine wpAny_Call_Name_kw (pA I hg hm hv ?_ hn hdb)
 exact PyProof.Rows.callWith_builtin1 (thn (ha pos pins s σ H _ I h) fun us s1 ⟨vs, H1, I1, r1, q1⟩ => hc pins s1 σ H1 vs us Q I1 r1 q1) he hpl
theorem dI (hc : kE X (.type T) r) (hg : Gl X x) (hm : X.mg x = none) (hv : bootBuiltins x = some (.type T)) (ha : PA X (e :: es) t) (hn : x ≠ "__name__" := by decide) (hdb : (x == ("__debug__" : Str)) = false := by decide)
  (he : starEach (e :: es) X.env = (false, eval e X.env) :: starEach es X.env := by rfl) (hpl : (backTo pos (starEach es X.env)).any (·.1) = false := by rfl) : PE X (.Call (.Name x p) (e :: es) [] pos) (tCB r t) := by
 intro pins s σ H Q I h
 refine wpAny_Call_Name_kw (pA I hg hm hv ?_ hn hdb)
 exact PyProof.Rows.callWith_type1 (thn (ha pos pins s σ H _ I h) fun us s1 ⟨vs, H1, I1, r1, q1⟩ => hc pins s1 σ H1 vs us Q I1 r1 q1) he hpl
end
end L2
namespace HT
open PySem PyProof.Rows
section
open PySem.SeqAt
open PySem.AutoSeq1 (wpAny_loadPart')
open PySem.MeetsSeq PySem.MeetsSeq2 PySem.MeetsSeq3
end
section
variable {prog : Program} {w : World} {A : Around} {E : Value -> Shared -> Prop} {s : Shared}
def sIx (n d : Nat) : Option Int -> Nat
 | none => d
 | some v => if v < 0 then (v + (n : Int)).toNat else min v.toNat n
theorem sIx_none (n d : Nat) : sIx n d none = d := rfl
theorem sIx_nat (n d k : Nat) : sIx n d (some (k : Int)) = min k n := by
 show (if (k : Int) < 0 then ((k : Int) + (n : Int)).toNat else min (k : Int).toNat n) = min k n
 rw [if_neg Z1, Int.toNat_natCast]
end
end HT
namespace L2
open PySem PySem.Spec PyProof.Rows
abbrev TO := St -> Hp -> (Option Int -> Hp -> Prop) -> Prop
def PO (X : Cx) (e : Option Expr) (t : TO) : Prop :=
 ∀ (pins : List (Addr × Obj)) (s : Shared) (σ : St) (H : Hp) (Q : Option Int -> Hp -> Prop), Inv X pins σ H s -> t σ H Q ->
  wpAny (model X.prog X.w) X.A (evalPart e X.env) (fun u s' => ∃ o H', Inv X pins σ H' s' /\ IsPart u o /\ Q o H') X.xe s
def Gf : TO := fun _ H Q => Q none H
def Og (t : TE) : TO := fun σ H Q => t σ H fun x H1 => ∃ i, x = .int i /\ Q (some i) H1
section
variable {X : Cx} {e : Expr} {te : TE} {lo hi : Option Expr} {tl th : TO} {pos p2 : Pos}
theorem lN : PO X none Gf := by
 intro pins s σ H Q I h
 rw [evalPart_none]
 exact wpAny_pure ⟨none, H, I, .none, h⟩
theorem dZ (h : PE X e te) : PO X (some e) (Og te) := by
 intro pins s σ H Q I hw
 rw [evalPart_some]
 refine thn (h pins s σ H _ I hw) fun u s1 ⟨x, H1, I1, r1, q1⟩ => ?_
 obtain ⟨i, rfl, q⟩ := q1
 obtain ⟨t, rfl⟩ := r1
 exact ⟨some i, H1, I1, .int i t, q⟩
def SlR (X : Cx) (r : V -> Option Int -> Option Int -> Hp -> VK -> Prop) : Prop :=
 ∀ (pins : List (Addr × Obj)) (s : Shared) (σ : St) (H : Hp) (x : V) (v vl vu : Value) (lo hi : Option Int) (sl : Addr) (Q : VK), Inv X pins σ H s -> RelV x v -> s.heap.IsSliceOf sl vl vu .none -> IsPart vl lo -> IsPart vu hi -> r x lo hi H Q ->
  ∃ T id, typeLookup (.type T) "__getitem__" = pure (some (.builtin id)) /\ s.TypeIs v T /\ wpAny (model X.prog X.w) X.A (getItem v (.ref sl)) (EP X pins σ Q) X.xe s
def tSl (r : V -> Option Int -> Option Int -> Hp -> VK -> Prop) (te : TE) (tl th : TO) : TE := fun σ H Q => te σ H fun x H1 => tl σ H1 fun l H2 => th σ H2 fun u H3 => r x l u H3 Q
theorem gm {r : V -> Option Int -> Option Int -> Hp -> VK -> Prop} (hr : SlR X r) (he : PE X e te) (hl : PO X lo tl) (hu : PO X hi th) : PE X (.Subscript e (.Slice lo hi none p2) pos) (tSl r te tl th) := by
 intro pins s σ H Q I h
 refine Subscript_ (thn (he pins s σ H _ I h) fun v s1 ⟨x, H1, I1, r1, q1⟩ => ?_)
 refine wpAny_Slice (thn (hl pins s1 σ H1 _ I1 q1) fun vl s2 ⟨l, H2, I2, pl, q2⟩ => thn (hu pins s2 σ H2 _ I2 q2) fun vu s3 ⟨u, H3, I3, pu, q3⟩ => ?_)
 rw [evalPart_none]
 refine wpAny_pure ?_
 have I4 : Inv X pins σ H3 { s3 with heap := s3.heap.push { cls := .type "slice", data := .fields #[vl, vu, .none] } } := I3.kept (t' := s3.toks) fun b ob q => Heap.get?_push_of_some _ q
 obtain ⟨T, id, hT, ht, hg⟩ := hr pins { s3 with heap := s3.heap.push { cls := .type "slice", data := .fields #[vl, vu, .none] } } σ H3 x v vl vu l u s3.heap.objs.size Q I4 r1 (Heap.IsSliceOf.new ..) pl pu q3
 show wpAny (model X.prog X.w) X.A (subscriptTail e (.Slice lo hi none p2) v (.ref s3.heap.objs.size)) (EP X pins σ Q) X.xe { s3 with heap := s3.heap.push { cls := .type "slice", data := .fields #[vl, vu, .none] } }
 exact tail_any (ops := [.ref s3.heap.objs.size, v]) ht hT hg (by with_unfolding_all rfl)
def gP (xs : List V) (lo hi : Option Int) : List V := (xs.drop (HT.sIx xs.length 0 lo)).take (HT.sIx xs.length xs.length hi - HT.sIx xs.length 0 lo)
theorem wG (xs : List V) (lo hi : Option Int) : (gP xs lo hi).length <= xs.length := by
 unfold gP
 rw [length_take, List.length_drop]
 omega
end
def ixN (n : Nat) (i : Int) : Option Nat := if 0 <= i then (if i < n then some i.toNat else none) else if -(n : Int) <= i then some (i + n).toNat else none
def atI {α : Type} (xs : List α) (i : Int) : Option α := (ixN xs.length i).bind fun j => xs[j]?
theorem GF {n : Nat} {i : Int} {j : Nat} (h : ixN n i = some j) : seqIndex? i n = some j /\ j < n /\ -(n : Int) <= i /\ i < n := by
 unfold ixN at h
 by_cases h0 : 0 <= i
 ·rw [if_pos h0] at h
  by_cases h1 : i < n
  ·rw [if_pos h1] at h
   have e : i.toNat = j := Option.some.inj h
   exact ⟨by rw [seqIndex_of h0 h1, e], Z1, Z1, h1⟩
  ·rw [if_neg h1] at h; cases h
 ·rw [if_neg h0] at h
  by_cases h1 : -(n : Int) <= i
  ·rw [if_pos h1] at h
   have e : (i + n).toNat = j := Option.some.inj h
   exact ⟨by rw [seqIndex_neg Z1 h1, e], Z1, h1, Z1⟩
  ·rw [if_neg h1] at h; cases h
theorem uX {α : Type} {xs : List α} {i : Int} {v : α} (h : atI xs i = some v) : ∃ j, seqIndex? i xs.length = some j /\ xs[j]? = some v /\ j < xs.length /\ -(xs.length : Int) <= i /\ i < xs.length := by
 unfold atI at h
 cases e : ixN xs.length i with
 | none => rw [e] at h; cases h
 | some j =>
  rw [e] at h
  obtain ⟨h1, h2, h3, h4⟩ := GF e
  exact ⟨j, h1, h, h2, h3, h4⟩
theorem bf {α : Type} {xs : List α} {j : Nat} {v : α} (h : xs[j]? = some v) : atI xs (j : Int) = some v := by
 have hj : j < xs.length := (List.getElem?_eq_some_iff.mp h).1
 have e : ixN xs.length (j : Int) = some j := by
  unfold ixN
  rw [if_pos Z1, if_pos Z1]; simp
 unfold atI; rw [e]; exact h
def zG (b : Expr) : Prop := ∀ o i, subscripted b false o i = operate [o, i] (getItem o i)
def IxR (X : Cx) (r : R2) : Prop :=
 ∀ (value slice : Expr) (pins : List (Addr × Obj)) (s : Shared) (σ : St) (H : Hp) (x y : V) (v u : Value) (Q : VK), Inv X pins σ H s -> RelV x v -> RelV y u -> r x y H Q ->
  subscripted slice false v u = operate [v, u] (getItem v u) -> wpAny (model X.prog X.w) X.A (subscriptTail value slice v u) (EP X pins σ Q) X.xe s
def MtR (X : Cx) (id : String) (r : V -> List V -> Hp -> VK -> Prop) : Prop :=
 ∀ (pins : List (Addr × Obj)) (s : Shared) (σ : St) (H : Hp) (x : V) (xs : List V) (v : Value) (us : List Value) (Q : VK), Inv X pins σ H s -> RelV x v -> Vals xs us -> r x xs H Q ->
  wpAny (model X.prog X.w) X.A (call (.builtin id) (v :: us)) (EP X pins σ Q) X.xe s
section
variable {X : Cx} {a b : Expr} {ta tb : TE} {pos : Pos}
theorem bW {r : R2} (hr : IxR X r) (ha : PE X a ta) (hb : PE X b tb) (hs : zG b) : PE X (.Subscript a b pos) (tOp r ta tb) := by
 intro pins s σ H Q I h
 exact Subscript_ (Jx ha hb I h fun v u s2 x y H2 I2 rx ry q => hr a b pins s2 σ H2 x y v u Q I2 rx ry q (hs _ _))
def Ny (K : Frag) : R2 := fun x y H Q => ∃ p xs i v, x = .ref p /\ y = .int i /\ SqL K H p xs /\ atI xs i = some v /\ Q v H
def Kg (K : Frag) : R2 := fun x y H Q => ∃ p xs i v, x = .ref p /\ y = .int i /\ SqT K H p xs /\ atI xs i = some v /\ Q v H
def U7 : R2 := fun x y H Q => ∃ z i c, x = .str z /\ y = .int i /\ z.length <= sizeLine /\ atI z.cps.toList i = some c /\ Q (.str ⟨#[c]⟩) H
theorem bC : IxR X (Ny X.K) := by
 intro value slice pins s σ H x y v u Q I rx ry h hs
 obtain ⟨p, xs, i, z, rfl, rfl, hq, he, q⟩ := h
 cases rx
 obtain ⟨t, rfl⟩ := ry
 obtain ⟨its, r, pl, hz⟩ := I.list hq
 obtain ⟨j, h1, h2, h3, h4, h5⟩ := uX he
 obtain ⟨w, ew, rw'⟩ := r.get h2
 have hl := r.length
 have hn := vq
 have fin : EP X pins σ Q w s := ⟨z, H, I, rw', q⟩
 by_cases h0 : 0 <= i
 ·have hj : i.toNat = j := by
   rw [seqIndex_of h0 h5] at h1
   exact Option.some.inj h1
  exact item_listR pl.isList h0 Z1 (by rw [hj]; simpa using ew) fin hs
 ·have hj : (i + (its.toArray.size : Int)).toNat = j := by
   rw [seqIndex_neg Z1 h4] at h1
   rw [size_toArray, <- hl]
   exact Option.some.inj h1
  exact subscriptTail_builtinR (x := w) pl.isList.typeIs slot_list_getitem.lookup
   (wpAny_getItem_list_neg (Q := fun r s' => r = w /\ EP X pins σ Q r s') pl.isList Z1 (by rw [size_toArray] <;> omega) Z1 (by rw [hj]; simpa using ew) ⟨rfl, fin⟩) hs
theorem xY : IxR X (Kg X.K) := by
 intro value slice pins s σ H x y v u Q I rx ry h hs
 obtain ⟨p, xs, i, z, rfl, rfl, hq, he, q⟩ := h
 cases rx
 obtain ⟨t, rfl⟩ := ry
 obtain ⟨its, r, pl, hz⟩ := I.tuple hq
 obtain ⟨j, h1, h2, h3, h4, h5⟩ := uX he
 obtain ⟨w, ew, rw'⟩ := r.get h2
 have hl := r.length
 have hn := vq
 have fin : EP X pins σ Q w s := ⟨z, H, I, rw', q⟩
 exact subscriptTail_builtinR (x := w) pl.typeIs slot_tuple_getitem.lookup
  (getItem_tuple (j := j) (Q := fun r s' => r = w /\ EP X pins σ Q r s') pl Z1 Z1 (by rw [size_toArray, <- hl]; exact h1) (by simpa using ew) ⟨rfl, fin⟩) hs
theorem Ef : IxR X U7 := by
 intro value slice pins s σ H x y v u Q I rx ry h hs
 obtain ⟨z, i, c, rfl, rfl, hz, he, q⟩ := h
 obtain ⟨t, rfl⟩ := rx
 obtain ⟨t', rfl⟩ := ry
 obtain ⟨j, h1, h2, h3, h4, h5⟩ := uX he
 have hl : z.cps.toList.length = z.length := by simp [Str.length]
 rw [hl] at h1 h4 h5
 have hn := vq
 exact tail_any (typeIs_str s z t) slot_str_getitem.lookup (getItem_str (c := c) (by
  have e1 : decide (i < -(2 ^ 63 : Int)) = false := decide_eq_false Z1
  have e2 : decide (i >= 2 ^ 63) = false := decide_eq_false Z1
  rw [e1, e2, Bool.or_false]) (by rw [h1]; simpa using h2) ⟨.str ⟨#[c]⟩, H, I.tok _, ⟨_, rfl⟩, q⟩) hs
theorem u5 (lo hi : Option Int) (n : Nat) : (sliceBounds lo hi none n).1 = ((HT.sIx n 0 lo : Nat) : Int) /\ (sliceBounds lo hi none n).2.1 = ((HT.sIx n n hi : Nat) : Int) /\ (sliceBounds lo hi none n).2.2 = 1 := by
 refine ⟨?_, ?_, rfl⟩
 ·cases lo with
  | none => simp [sliceBounds, HT.sIx]
  | some i =>
   simp only [sliceBounds, HT.sIx, Option.getD_none, show (1 : Int) > 0 by decide, if_true]
   by_cases h : i < 0
   ·simp only [h, if_true] <;> omega
   ·simp only [h, if_false] <;> omega
 ·cases hi with
  | none => simp [sliceBounds, HT.sIx]
  | some i =>
   simp only [sliceBounds, HT.sIx, Option.getD_none, show (1 : Int) > 0 by decide, if_true]
   by_cases h : i < 0
   ·simp only [h, if_true] <;> omega
   ·simp only [h, if_false] <;> omega
theorem sX (its : List Value) (lo hi : Option Int) : slicePick its.toArray lo hi none = ((its.drop (HT.sIx its.length 0 lo)).take (HT.sIx its.length its.length hi - HT.sIx its.length 0 lo)).toArray := by
 obtain ⟨h1, h2, h3⟩ := u5 lo hi its.toArray.size
 unfold slicePick
 rw [h1, h2, h3]
 simp only [sliceRange_one, pick_run, size_toArray] <;> rfl
def MJ (K : Frag) : V -> Option Int -> Option Int -> Hp -> VK -> Prop := fun x lo hi H Q => ∃ a xs, x = .ref a /\ SqL K H a xs /\ ∀ p, H p = none -> Q (.ref p) (upd H p (.lst (gP xs lo hi)))
theorem nR : SlR X (MJ X.K) := by
 intro pins s σ H x v vl vu lo hi sl Q I rx hs pl pu h
 obtain ⟨a, xs, rfl, hx, q⟩ := h
 cases rx
 obtain ⟨its, r, ht, hz⟩ := I.list hx
 have hlen := r.length
 refine ⟨"list", _, slot_list_getitem.lookup, ht.isList.typeIs, ?_⟩
 refine wpAny_getItem_list_slice ht.isList hs pl pu .none Z2 ?_ (by rw [size_toArray] <;> omega)
 rw [sX, <- hlen]
 refine ⟨.ref s.heap.objs.size, _, I.laid (t' := s.toks) (o := .lst (gP xs lo hi)) (fun b ob q => Heap.get?_push_of_some _ q) (le_refl _) ?_, rfl, q _ (I.hok.fresh (le_refl _))⟩
 exact ⟨le_trans (wG xs lo hi) hz, _, 0, (r.drop (HT.sIx xs.length 0 lo)).take (HT.sIx xs.length xs.length hi - HT.sIx xs.length 0 lo), Heap.get?_push_size _ rfl⟩
def cW : V -> Bool
 | .non => true
 | .bl _ => true
 | .int _ => true
 | .str _ => true
 | _ => false
def eqV : V -> V -> Bool
 | .non, .non => true
 | .bl a, .bl b => a == b
 | .bl a, .int b => (if a then 1 else 0) == b
 | .int a, .bl b => a == (if b then 1 else 0)
 | .int a, .int b => a == b
 | .str a, .str b => a == b
 | _, _ => false
theorem Jk {A : Around} {s : Shared} {y x : V} {u v : Value} (ry : RelV y u) (rx : RelV x v) (fy : cW y = true) (fx : cW x = true) : SeqAt.EqAt A s u v (eqV y x) := by
 cases y with
 | non =>
  cases ry
  cases x with
  | non => cases rx; exact SeqAt.EqAt.same _
  | bl b => cases rx; exact SeqAt.EqAt.none_bool b
  | int b => obtain ⟨t, rfl⟩ := rx; exact SeqAt.EqAt.none_int b t
  | str b => obtain ⟨t, rfl⟩ := rx; exact SeqAt.EqAt.none_str b t
  | _ => exact absurd (show false = true from fx) Bool.false_ne_true
 | bl a =>
  cases ry
  cases x with
  | non => cases rx; exact SeqAt.EqAt.bool_none a
  | bl b => cases rx; exact SeqAt.EqAt.bool_bool a b
  | int b => obtain ⟨t, rfl⟩ := rx; exact SeqAt.EqAt.bool_int a b t
  | str b => obtain ⟨t, rfl⟩ := rx; exact SeqAt.EqAt.bool_str a b t
  | _ => exact absurd (show false = true from fx) Bool.false_ne_true
 | int a =>
  obtain ⟨t', rfl⟩ := ry
  cases x with
  | non => cases rx; exact SeqAt.EqAt.int_none a t'
  | bl b => cases rx; exact SeqAt.EqAt.int_bool a t' b
  | int b => obtain ⟨t, rfl⟩ := rx; exact SeqAt.EqAt.int_int a t' b t
  | str b => obtain ⟨t, rfl⟩ := rx; exact SeqAt.EqAt.int_str a t' b t
  | _ => exact absurd (show false = true from fx) Bool.false_ne_true
 | str a =>
  obtain ⟨t', rfl⟩ := ry
  cases x with
  | non => cases rx; exact SeqAt.EqAt.str_none a t'
  | bl b => cases rx; exact SeqAt.EqAt.str_bool a t' b
  | int b => obtain ⟨t, rfl⟩ := rx; exact SeqAt.EqAt.str_int a t' b t
  | str b => obtain ⟨t, rfl⟩ := rx; exact SeqAt.EqAt.str_str a t' b t
  | _ => exact absurd (show false = true from fx) Bool.false_ne_true
 | _ => exact absurd (show false = true from fy) Bool.false_ne_true
def eqU (x : V) (u : Value) : Bool := match u with
 | .none => eqV .non x
 | .bool b => eqV (.bl b) x
 | .int i _ => eqV (.int i) x
 | .str z _ => eqV (.str z) x
 | _ => false
theorem Dw {x y : V} {u : Value} (r : RelV y u) (f : cW y = true) : eqU x u = eqV y x := by
 cases y with
 | non => cases r; rfl
 | bl b => cases r; rfl
 | int i => obtain ⟨t, rfl⟩ := r; rfl
 | str z => obtain ⟨t, rfl⟩ := r; rfl
 | _ => exact absurd (show false = true from f) Bool.false_ne_true
theorem oA {x : V} : ∀ {xs : List V} {us : List Value}, Vals xs us -> xs.all cW = true -> us.any (eqU x) = xs.any fun y => eqV y x
 | _, _, .nil, _ => rfl
 | y :: xs, u :: us, .cons r t, f => by
  rw [List.all_cons, and_eq_true] at f
  rw [any_cons, any_cons, Dw r f.1, oA t f.2]
theorem lE {A : Around} {s : Shared} {x : V} {v : Value} (rx : RelV x v) (fx : cW x = true) : ∀ {xs : List V} {us : List Value}, Vals xs us -> xs.all cW = true -> ∀ u ∈ us, SeqAt.EqAt A s u v (eqU x u)
 | _, _, .nil, _ => fun u hu => by cases hu
 | y :: xs, u :: us, .cons r t, f => fun u' hu => by
  rw [List.all_cons, and_eq_true] at f
  rcases mem_cons.mp hu with rfl | hu
  ·rw [Dw r f.1]; exact Jk r rx f.1 fx
  ·exact lE rx fx t f.2 u' hu
def inV (x : V) (xs : List V) : Bool := xs.any fun y => eqV y x
def rIn (K : Frag) (neg : Bool) : R2 := fun x y H Q => ∃ p xs, y = .ref p /\ (SqL K H p xs \/ SqT K H p xs) /\ cW x = true /\ xs.all cW = true /\ Q (.bl (if neg then !inV x xs else inV x xs)) H
theorem pH : OpR X (compareOp .In) (rIn X.K false) := by
 intro pins s σ H x y v u Q I rx ry h
 obtain ⟨p, xs, rfl, hq, fx, fs, q⟩ := h
 cases ry
 rcases hq with hq | hq
 ·obtain ⟨its, r, pl, hz⟩ := I.list hq
  refine SeqAt.in_listAt (eqU x) pl.isList (fun w hw => lE rx fx r fs w (by simpa using hw)) ⟨.bl _, H, I, rfl, ?_⟩
  rw [show its.toArray.any (eqU x) = its.any (eqU x) by simp, oA r fs]
  exact q
 ·obtain ⟨its, r, pl, hz⟩ := I.tuple hq
  refine SeqAt.in_tupleAt (eqU x) pl (fun w hw => lE rx fx r fs w (by simpa using hw)) ⟨.bl _, H, I, rfl, ?_⟩
  rw [show its.toArray.any (eqU x) = its.any (eqU x) by simp, oA r fs]
  exact q
theorem gG : OpR X (compareOp .NotIn) (rIn X.K true) := by
 intro pins s σ H x y v u Q I rx ry h
 obtain ⟨p, xs, rfl, hq, fx, fs, q⟩ := h
 cases ry
 rcases hq with hq | hq
 ·obtain ⟨its, r, pl, hz⟩ := I.list hq
  refine SeqAt.notIn_listAt (eqU x) pl.isList (fun w hw => lE rx fx r fs w (by simpa using hw)) ⟨.bl _, H, I, rfl, ?_⟩
  rw [show its.toArray.any (eqU x) = its.any (eqU x) by simp, oA r fs]
  exact q
 ·obtain ⟨its, r, pl, hz⟩ := I.tuple hq
  refine SeqAt.notIn_tupleAt (eqU x) pl (fun w hw => lE rx fx r fs w (by simpa using hw)) ⟨.bl _, H, I, rfl, ?_⟩
  rw [show its.toArray.any (eqU x) = its.any (eqU x) by simp, oA r fs]
  exact q
theorem aY : kE X (.builtin "len") (fun xs H Q => ∃ p ys, xs = [.ref p] /\ (SqL X.K H p ys \/ SqT X.K H p ys) /\ Q (.int ys.length) H) := by
 intro pins s σ H xs us Q I r h
 obtain ⟨p, ys, rfl, hq, q⟩ := h
 obtain ⟨u, rfl, rx⟩ := vals1 r
 cases rx
 have hn := vq
 rcases hq with hq | hq
 ·obtain ⟨its, r', pl, hz⟩ := I.list hq
  have hlen := r'.length
  exact Calls.call_len_list pl.isList (by simp only [size_toArray] <;> omega) ⟨.int ys.length, H, I.tok _, ⟨s.toks + 1, by rw [size_toArray, hlen]⟩, q⟩
 ·obtain ⟨its, r', pl, hz⟩ := I.tuple hq
  have hlen := r'.length
  exact len_tuple pl (by simp only [size_toArray] <;> omega) ⟨.int ys.length, H, I.tok _, ⟨s.toks + 1, by rw [size_toArray, hlen]⟩, q⟩
theorem cu : kE X (.type "list") (fun xs H Q => ∃ p ys, xs = [.ref p] /\ (SqL X.K H p ys \/ SqT X.K H p ys) /\ ∀ l, H l = none -> Q (.ref l) (upd H l (.lst ys))) := by
 intro pins s σ H xs us Q I r h
 obtain ⟨p, ys, rfl, hq, q⟩ := h
 obtain ⟨u, rfl, rx⟩ := vals1 r
 cases rx
 have fin : ∀ (its : List Value), Vals ys its -> ys.length <= sizeLine -> ∀ (h' : Heap) (c' : Nat), (∀ b o', s.heap.get? b = some o' -> h'.get? b = some o') ->
   h'.get? s.heap.objs.size = some { cls := .type "list", dict := none, data := .seq its.toArray c', slots := #[] } -> EP X pins σ Q (.ref s.heap.objs.size) { s with heap := h' } := fun its r' hz h' c' kp e =>
  ⟨.ref s.heap.objs.size, _, I.laid (t' := s.toks) kp (le_refl _) (show bF X.prog X.w _ h' _ (.lst ys) from ⟨hz, its, c', r', e⟩), rfl, q _ (I.hok.fresh (le_refl _))⟩
 rcases hq with hq | hq
 ·obtain ⟨its, r', pl, hz⟩ := I.list hq
  have hlen := r'.length
  obtain ⟨o, ho, hc, n, hd⟩ := pl.isList
  exact call_list_seq p (.inl rfl) ho hc hd (fun h' c' kp e => fin its r' hz h' c' kp e) (by simp only [size_toArray] <;> omega)
 ·obtain ⟨its, r', pl, hz⟩ := I.tuple hq
  have hlen := r'.length
  obtain ⟨o, ho, hc, n, hd⟩ := pl
  exact call_list_seq p (.inr rfl) ho hc hd (fun h' c' kp e => fin its r' hz h' c' kp e) (by simp only [size_toArray] <;> omega)
theorem tD : kE X (.type "tuple") (fun xs H Q => ∃ p ys, xs = [.ref p] /\ ((SqL X.K H p ys /\ ∀ l, H l = none -> Q (.ref l) (upd H l (.tup ys))) \/ (SqT X.K H p ys /\ Q (.ref p) H))) := by
 intro pins s σ H xs us Q I r h
 obtain ⟨p, ys, rfl, h⟩ := h
 obtain ⟨u, rfl, rx⟩ := vals1 r
 cases rx
 rcases h with ⟨hq, q⟩ | ⟨hq, q⟩
 ·obtain ⟨its, r', pl, hz⟩ := I.list hq
  have hlen := r'.length
  refine call_tuple_list pl.isList (fun h' kp => ?_) (by simp only [size_toArray] <;> omega)
  have I1 : Inv X pins σ H { s with heap := h' } := I.kept (t' := s.toks) kp
  have I2 : Inv X pins σ (upd H h'.objs.size (.tup ys)) { s with heap := h'.push { cls := .type "tuple", data := .seq its.toArray } } :=
   I1.laid (t' := s.toks) (fun b o e => Heap.get?_push_of_some _ e) (le_refl _) (show bF X.prog X.w _ _ _ (.tup ys) from ⟨hz, its, r', IsTup.new _ _⟩)
  exact ⟨.ref h'.objs.size, _, I2, rfl, q _ (I1.hok.fresh (le_refl _))⟩
 ·obtain ⟨its, r', pl, hz⟩ := I.tuple hq
  exact call_tuple_same pl ⟨.ref p, H, I, rfl, q⟩
def tyV (K : Frag) (T : String) (x : V) (H : Hp) : Prop := match x with
 | .str _ => T = "str"
 | .int _ => T = "int"
 | .ref p => (T = "list" /\ ∃ xs, SqL K H p xs) \/ (T = "tuple" /\ ∃ o, K.lookup p = some o /\ o.cls = .type "tuple" /\ o.dict = none) \/
   (T = "dict" /\ ((∃ kvs, H p = some (.dK kvs)) \/ ∃ kvs, H p = some (.dT kvs))) \/ (T = "set" /\ ∃ S n, H p = some (.set S n))
 | _ => False
theorem Cm {pins : List (Addr × Obj)} {σ : St} {H : Hp} {s : Shared} {T : String} {x : V} {v : Value} (I : Inv X pins σ H s) (r : RelV x v) (ty : tyV X.K T x H) :
  s.TypeIs v T /\ ∀ a, v = .ref a -> ∃ ob, s.heap.get? a = some ob /\ ob.dict = none := by
 cases x with
 | str z =>
  obtain ⟨t, rfl⟩ := r
  cases (show T = "str" from ty)
  exact ⟨typeIs_str s z t, fun _ e => nomatch e⟩
 | int i =>
  obtain ⟨t, rfl⟩ := r
  cases (show T = "int" from ty)
  exact ⟨typeIs_int s i t, fun _ e => nomatch e⟩
 | ref p =>
  cases r
  rcases ty with ⟨rfl, xs, hq⟩ | ⟨rfl, o, hk, hc, hd⟩ | ⟨rfl, hk⟩ | ⟨rfl, S, n, hk⟩
  ·obtain ⟨its, _, pl, _⟩ := I.list hq
   refine ⟨pl.isList.typeIs, fun a e => ?_⟩
   cases e
   obtain ⟨o, n, e, c, hd, _⟩ := pl
   exact ⟨o, e, hd⟩
  ·refine ⟨⟨o, I.kIn p o hk, hc⟩, fun a e => ?_⟩
   cases e
   exact ⟨o, I.kIn _ o hk, hd⟩
  ·have z : ∃ o, s.heap.get? p = some o /\ o.ExactDict := by
    rcases hk with ⟨kvs, hk⟩ | ⟨kvs, hk⟩
    ·obtain ⟨_, _, _, _, o, _, _, e, ex, _⟩ := I.hok p _ hk
     exact ⟨o, e, ex⟩
    ·obtain ⟨_, _, _, _, o, _, _, e, ex, _⟩ := I.hok p _ hk
     exact ⟨o, e, ex⟩
   obtain ⟨o, e, ex⟩ := z
   refine ⟨⟨o, e, ex.1⟩, fun a e2 => ?_⟩
   cases e2
   exact ⟨o, e, ex.2.1⟩
  ·obtain ⟨o, _, _, _, e, ex, _⟩ := I.hok p _ hk
   refine ⟨⟨o, e, ex.1⟩, fun a e2 => ?_⟩
   cases e2
   exact ⟨o, e, ex.2.1⟩
 | _ => exact False.elim ty
def Tt (K : Frag) (T : String) (r : V -> List V -> Hp -> VK -> Prop) (to : TE) : TE := fun σ H Q => to σ H fun x H1 => tyV K T x H1 /\ r x [] H1 Q
def tBM (K : Frag) (T : String) (r : V -> List V -> Hp -> VK -> Prop) (to : TE) (t : TA) : TE := fun σ H Q => to σ H fun x H1 => tyV K T x H1 /\ t σ H1 fun xs H2 => r x xs H2 Q
variable {o e : Expr} {es : List Expr} {to : TE} {t : TA} {name : Str} {apos cpos : Pos} {T id : String} {r : V -> List V -> Hp -> VK -> Prop}
theorem yw (pa : PlainAttrs T) (slot : Slot T name id) (hty : typeOf (.builtin id) = pure (.type "method_descriptor")) (hm : MtR X id r) (ho : PE X o to)
  (hbase : attributeBase o name X.env (eval o X.env) = eval o X.env := by rfl) (hline : (apos.endLine == cpos.line) = true := by rfl) : PE X (.Call (.Attribute o name apos) [] [] cpos) (Tt X.K T r to) := by
 intro pins s σ H Q I h
 refine wpAny_Call_method0_late hbase hline (thn (ho pins s σ H _ I h) fun v s1 ⟨x, H1, I1, r1, ty, q1⟩ => ?_)
 obtain ⟨h1, h2⟩ := Cm I1 r1 ty
 exact ⟨T, id, pa, slot, hty, h1, h2, Calls.callWith_builtin rfl (PySem.evalArgs_none (hm pins s1 σ H1 x [] v [] Q I1 r1 .nil q1))⟩
theorem dq (pa : PlainAttrs T) (slot : Slot T name id) (hty : typeOf (.builtin id) = pure (.type "method_descriptor")) (hm : MtR X id r) (ho : PE X o to) (ha : PA X (e :: es) t)
  (hbase : attributeBase o name X.env (eval o X.env) = eval o X.env := by rfl)
  (hfew : ((backTo cpos (starEach (e :: es) X.env)).all (fun x => !x.1) && (backToKw cpos (keywordEach [] X.env)).all (fun x => x.1.isSome)
   && decide ((e :: es).length + ([] : List Keyword).length + (if ([] : List Keyword).isEmpty then 0 else 1) < 30)) = true := by rfl)
  (hline : (apos.endLine == cpos.line) = true := by rfl) (hs : starEach (e :: es) X.env = (false, eval e X.env) :: starEach es X.env := by rfl) (hplain : (backTo cpos (starEach es X.env)).any (·.1) = false := by rfl) :
  PE X (.Call (.Attribute o name apos) (e :: es) [] cpos) (tBM X.K T r to t) := by
 intro pins s σ H Q I h
 refine wpAny_Call_method_late hbase hfew hline rfl (thn (ho pins s σ H _ I h) fun v s1 ⟨x, H1, I1, r1, ty, q1⟩ => ?_)
 obtain ⟨h1, h2⟩ := Cm I1 r1 ty
 refine ⟨T, id, pa, slot, hty, h1, h2, ?_⟩
 have hA := ha cpos pins s1 σ H1 _ I1 q1
 rw [hs] at hA ⊢
 refine Calls.callWith_builtin (by show (false || (backTo cpos (starEach es X.env)).any (·.1)) = false; rw [hplain] <;> rfl) (Calls.evalArgs_plain ?_)
 exact thn hA fun us s2 ⟨vs, H2, I2, r2, q2⟩ => hm pins s2 σ H2 x vs v us Q I2 r1 r2 q2
end
def MtM (X : Cx) (id : String) (r : V -> List V -> Hp -> VK -> Prop) : Prop :=
 ∀ (pins : List (Addr × Obj)) (s : Shared) (σ : St) (H : Hp) (x : V) (xs : List V) (v : Value) (us : List Value) (Q : VK), Inv X pins σ H s -> RelV x v -> Vals xs us -> r x xs H Q ->
  wpAny (model X.prog X.w) X.A (call (.builtin id) (v :: us)) (EP X pins σ Q) X.xe s
theorem Vals.one : ∀ {x : V} {us : List Value}, Vals [x] us -> ∃ u, us = [u] /\ RelV x u
 | _, _, .cons r .nil => ⟨_, rfl, r⟩
theorem Vals.zero : ∀ {us : List Value}, Vals [] us -> us = []
 | _, .nil => rfl
theorem Vals.dropLast {xs : List V} {us : List Value} (h : Vals xs us) : Vals xs.dropLast us.dropLast := by
 induction h with
 | nil => exact .nil
 | cons r t ih =>
  cases t with
  | nil => exact .nil
  | cons q t' => exact .cons r ih
theorem Vals.reverse {xs : List V} {us : List Value} (h : Vals xs us) : Vals xs.reverse us.reverse := by
 induction h with
 | nil => exact .nil
 | cons r t ih => rw [reverse_cons, reverse_cons]; exact Vals.append ih (.cons r .nil)
theorem xZ {α : Type} (l : List α) : l.eraseIdx (l.length - 1) = l.dropLast := by
 induction l with
 | nil => rfl
 | cons a r ih =>
  cases r with
  | nil => rfl
  | cons b r =>
   have e : (a :: b :: r).length - 1 = ((b :: r).length - 1) + 1 := by
    have h1 : (a :: b :: r).length = r.length + 2 := rfl
    have h2 : (b :: r).length = r.length + 1 := rfl
    omega
   rw [e, List.eraseIdx_cons_succ, ih]
   all_goals rfl
section
variable {X : Cx} {pins : List (Addr × Obj)} {σ : St} {H : Hp} {s : Shared} {l b : Addr} {xs ys zs : List V}
theorem Inv.lset {its its' : List Value} {n : Nat} {f : Array Value -> Array Value} {t' : Nat} (I : Inv X pins σ H s) (hH : H l = some (.lst xs))
  (e : s.heap.get? l = some { cls := .type "list", data := .seq its.toArray n }) (hf : f its.toArray = its'.toArray) (hv : Vals ys its') (hz : ys.length <= sizeLine) :
  Inv X pins σ (upd H l (.lst ys)) { s with heap := s.heap.update l (Obj.mapSeq f), toks := t' } := by
 have q := PySem.IsL.update e f
 rw [hf] at q
 refine I.write (x := l) (e := l) (by rw [hH]; exact trivial) (.inl rfl) (fun b' u hb hu => (Heap.get?_update_other s.heap (Obj.mapSeq f) (Ne.symm hb)).trans hu) ⟨_, q⟩ ?_
 exact ⟨hz, its', _, hv, q⟩
theorem Inv.lnew {its : List Value} {t' : Nat} (I : Inv X pins σ H s) (hv : Vals ys its) (hz : ys.length <= sizeLine) :
  Inv X pins σ (upd H s.heap.objs.size (.lst ys)) { s with heap := s.heap.push { cls := .type "list", data := .seq its.toArray }, toks := t' } :=
 I.laid (fun _ _ q => Heap.get?_push_of_some _ q) (le_refl _) ⟨hz, its, 0, hv, Heap.get?_push_size _ rfl⟩
theorem Inv.fresh (I : Inv X pins σ H s) : H s.heap.objs.size = none := I.hok.fresh (le_refl _)
theorem Inv.lstM (I : Inv X pins σ H s) (hH : H l = some (.lst xs)) : xs.length <= sizeLine /\ ∃ (its : List Value) (n : Nat), Vals xs its /\ xs.length = its.length /\ s.heap.get? l = some { cls := .type "list", data := .seq its.toArray n } := by
 obtain ⟨z, its, n, r, e⟩ := I.hok l _ hH
 exact ⟨z, its, n, r, r.length, e⟩
theorem Dp {n : Nat} (h : n <= sizeLine) : Builtin.List.listTooLong n = false := by
 unfold Builtin.List.listTooLong
 exact decide_eq_false Z1
end
section
variable {X : Cx}
def Gz : V -> List V -> Hp -> VK -> Prop := fun x vs H Q => ∃ l xs y, x = .ref l /\ vs = [y] /\ H l = some (.lst xs) /\ xs.length < sizeLine /\ Q .non (upd H l (.lst (xs ++ [y])))
theorem dj : MtM X "list.append" Gz := by
 intro pins s σ H x vs v us Q I rx rv h
 obtain ⟨l, xs, y, rfl, rfl, hH, hz, q⟩ := h
 cases rx
 obtain ⟨u, rfl, ru⟩ := rv.one
 obtain ⟨z, its, n, r, hl, e⟩ := I.lstM hH
 refine call_meets F.slot_list_append ⟨_, e, rfl⟩ F.entry_list_append (F.args_list_append_2 _ _) (PySem.list_append l its.toArray n u (by rw [size_toArray]; omega)) ⟨e, ?_⟩
 refine ⟨.non, _, I.lset (its' := its ++ [u]) hH e Z2 (r.append (.cons ru .nil)) ?_, rfl, q⟩
 rw [length_append, List.length_singleton]
 omega
def Gh : V -> List V -> Hp -> VK -> Prop := fun x vs H Q => ∃ l b xs zs, x = .ref l /\ vs = [.ref b] /\ H l = some (.lst xs) /\ H b = some (.lst zs) /\ xs.length + zs.length <= sizeLine /\ Q .non (upd H l (.lst (xs ++ zs)))
theorem pC : MtM X "list.extend" Gh := by
 intro pins s σ H x vs v us Q I rx rv h
 obtain ⟨l, b, xs, zs, rfl, rfl, hH, hB, hz, q⟩ := h
 cases rx
 obtain ⟨u, rfl, ru⟩ := rv.one
 cases ru
 obtain ⟨z, its, n, r, hl, e⟩ := I.lstM hH
 obtain ⟨z2, its2, n2, r2, hl2, e2⟩ := I.lstM hB
 have hsz : its.toArray.size + its2.toArray.size <= sizeLine := by rw [size_toArray, size_toArray]; omega
 have hlong : ¬ (!its.toArray.isEmpty && Builtin.List.listTooLong (its.toArray.size + its2.toArray.size)) = true := by
  rw [Dp hsz, Bool.and_false]
  exact Bool.false_ne_true
 refine call_meets F.slot_list_extend ⟨_, e, rfl⟩ F.entry_list_extend (F.args_list_extend_2 _ _)
  (AutoSeq1.list_extend_list_list_0 l its.toArray n b its2.toArray n2 hlong (by rw [size_toArray]; omega) Z1) ⟨e, e2, ?_⟩
 refine ⟨.non, _, I.lset (its' := its ++ its2) hH e Z2 (r.append r2) ?_, rfl, q⟩
 rw [length_append]
 omega
def Ti : V -> List V -> Hp -> VK -> Prop := fun x vs H Q => ∃ l xs y, x = .ref l /\ vs = [] /\ H l = some (.lst xs) /\ xs[xs.length - 1]? = some y /\ Q y (upd H l (.lst xs.dropLast))
theorem Hw : MtM X "list.pop" Ti := by
 intro pins s σ H x vs v us Q I rx rv h
 obtain ⟨l, xs, y, rfl, rfl, hH, hy, q⟩ := h
 cases rx
 have hus := rv.zero
 subst hus
 obtain ⟨z, its, n, r, hl, e⟩ := I.lstM hH
 obtain ⟨u, hu, ru⟩ := r.get hy
 have hy' : its.toArray[its.toArray.size - 1]? = some u := by
  show its.toArray[its.length - 1]? = some u
  rw [<- Array.getElem?_toList, <- hl]
  exact hu
 refine call_meets F.slot_list_pop ⟨_, e, rfl⟩ F.entry_list_pop (F.args_list_pop_1 _) (MeetsSeq.list_pop_last l its.toArray n u hy' (by rw [size_toArray]; omega)) ⟨e, ?_⟩
 refine ⟨y, _, I.lset (its' := its.dropLast) hH e ?_ r.dropLast ?_, ru, q⟩
 ·show its.toArray.eraseIdxIfInBounds (its.toArray.size - 1) = its.dropLast.toArray
  rw [size_toArray, List.eraseIdxIfInBounds_toArray, xZ]
 ·rw [List.length_dropLast]
  omega
def Cz : V -> List V -> Hp -> VK -> Prop := fun x vs H Q => ∃ l xs, x = .ref l /\ vs = [] /\ H l = some (.lst xs) /\ Q .non (upd H l (.lst xs.reverse))
theorem qQ : MtM X "list.reverse" Cz := by
 intro pins s σ H x vs v us Q I rx rv h
 obtain ⟨l, xs, rfl, rfl, hH, q⟩ := h
 cases rx
 have hus := rv.zero
 subst hus
 obtain ⟨z, its, n, r, hl, e⟩ := I.lstM hH
 refine call_meets F.slot_list_reverse ⟨_, e, rfl⟩ F.entry_list_reverse (F.args_list_reverse_1 _) (AutoSeq1.list_reverse_list_0 l its.toArray n (by rw [size_toArray]; omega)) ⟨e, ?_⟩
 refine ⟨.non, _, I.lset (its' := its.reverse) hH e Z2 r.reverse ?_, rfl, q⟩
 rw [length_reverse]
 omega
def Uz : R2 := fun x y H Q => ∃ l b xs zs, x = .ref l /\ y = .ref b /\ H l = some (.lst xs) /\ H b = some (.lst zs) /\ xs.length + zs.length <= sizeLine /\ ∀ p, H p = none -> Q (.ref p) (upd H p (.lst (xs ++ zs)))
theorem mR : OpR X (binaryOp .Add) Uz := by
 intro pins s σ H x y v u Q I rx ry h
 obtain ⟨l, b, xs, zs, rfl, rfl, hH, hB, hz, q⟩ := h
 cases rx
 cases ry
 obtain ⟨z, its, n, r, hl, e⟩ := I.lstM hH
 obtain ⟨z2, its2, n2, r2, hl2, e2⟩ := I.lstM hB
 refine PySem.P.add_list e e2 ?_ (by rw [size_toArray, size_toArray]; omega)
 have ea : its.toArray ++ its2.toArray = (its ++ its2).toArray := by simp
 rw [ea]
 exact ⟨.ref _, _, I.lnew (t' := s.toks) (r.append r2) (by rw [length_append]; omega), rfl, q _ I.fresh⟩
end
section
variable {prog : Program} {w : World} {A : Around} {E : Value -> Shared -> Prop} {s : Shared}
end
section
variable {X : Cx}
end
end L2
namespace Att
open PySem PySem.W PySem.Calls PyProof.Rows
theorem pZ {P : Params} {h : Heap} : ∀ (ns : List Int) (vs : List Value), WellAll P h vs (ns.map WData.int) -> IntsAre vs ns := by
 intro ns
 induction ns with
 | nil =>
  intro vs w
  rw [map_nil] at w
  cases w
  exact .nil
 | cons n ns ih =>
  intro vs w
  rw [map_cons] at w
  cases w with
  | cons a b =>
   cases a
   exact .cons _ _ (ih _ b)
theorem Bg {l : OpenLaw} {n : Nat} (hn : l.most = some n) {P : Params} {h : Heap} {args : List WData} {vals : List Value}
  (hpre : l.row.toRowW.claim.pre args = true) (hwl : WellAll P h vals args) :
  ∃ a vs ns, vals = [Value.ref a] /\ args = [WData.list (ns.map WData.int)] /\ h.get? a = some { cls := .type "list", data := .seq vs.toArray } /\ IntsAre vs ns /\ ns.length <= n := by
 have hsh : WShape.hasAll [] args [.list .int] = true := (pre_splitW hpre).1
 have hc : l.pre.holds [] { args := args } = true := (pre_splitW hpre).2
 obtain ⟨d, r, rfl, h1, h2⟩ := hasAllW_cons hsh
 obtain rfl := hasAllW_nil h2
 obtain ⟨xs, rfl, h3⟩ := hasW_list h1
 obtain ⟨ns, rfl⟩ := items_int h3
 have hlen : ns.length <= n := by
  unfold OpenLaw.pre at hc
  have h4 : (WTm.not (.lt (.lit (.int (n : Int))) (.len (.arg 0)))).holds [] { args := [.list (ns.map .int)] } = true := by
   have h4 := (holds_andW hc).1
   rw [hn] at h4
   exact h4
  have h5 := condW_of h4 (w_not (w_lt w_lit (w_len_list (w_arg rfl))))
  rw [length_map] at h5
  refine Nat.le_of_not_lt fun q => ?_
  have q' : (n : Int) < ((ns.length : Nat) : Int) := by omega
  first
   | (rw [decide_eq_true q'] at h5; exact absurd h5 Z0)
   | (simp at h5; omega)
 cases hwl with
 | cons w1 w2 =>
  cases w2
  cases w1 with
  | list ho hall => exact ⟨_, _, ns, rfl, rfl, ho, pZ ns _ hall, hlen⟩
theorem BJ (l : OpenLaw) (args : List WData) : l.row.toRowW.claim.post args (.bool true) args = true :=
 postW_of (r := l.row.toRowW) (X := (true == true))
  (show WShape.has [] (.bool true) .bool = true by first | rfl | decide | simp [WShape.has, WShape.arms, WShape.armsAll])
  (show (WTm.eq .res (.lit (.bool true))).value [] { args := args, res := some (.bool true), after := args } = some (.bool (true == true)) from w_eq_bool (w_res rfl) w_lit) rfl
theorem attach_call {l : OpenLaw} {n : Nat} {q : Program} {loose : List Str} {XP : (Str -> Option Value) -> Heap -> Prop} {YP : World -> Heap -> Prop} {d : DefRec}
  (hn : l.most = some n) (hdf : d.params.defaults = [])
  (call : ∀ (w : World) (s₀ s₁ : Shared) (mg mb : Str -> Option Value) (fa : Addr) (o : Obj) (pm cd doc : Value) (a : Addr) (vs : List Value) (ns : List Int),
   Ground q loose [] XP w s₀ mg mb s₁.heap -> YP w s₁.heap ->
   s₁.heap.get? fa = some o -> o.data = .func (docDef d.name d.params d.body d.scope pm cd doc) -> s₁.heap.CodeRec cd d.name -> mg d.name = some (.ref fa) ->
   s₁.heap.get? a = some { cls := .type "list", data := .seq vs.toArray } -> IntsAre vs ns -> ns.length <= n -> s₁.gens = #[] ->
   codeAny (model l.prog w) callerA (.call (.ref fa) ⟨[.ref a], []⟩) (fun r s' => r = .ok (.ret (.bool true)) /\ OldK s₁.heap s'.heap /\ s'.os = s₁.os /\ AllBare s'.gens) s₁) :
  WalkO q loose XP YP l.row.toRowW d [] (fun f vs => PySem.call f vs) := by
 intro w s₀ s₁ mg mb G Y fa o pm cd doc dV kV ho hd hcd hD hmg hg args vals as hpre hlay hrd hwl hlo
 obtain rfl : dV = .none := Dflts.none hD hdf
 obtain rfl : kV = .none := Dflts.noKw hD
 obtain ⟨a, vs, ns, rfl, rfl, hobj, hints, hlen⟩ := Bg hn hpre hwl
 refine enter_call (codeAny_mono (call w s₀ s₁ mg mb fa o pm cd doc a vs ns G Y ho (fd_plain hd) hcd hmg hobj hints hlen hg) fun r s' hq => ?_)
 obtain ⟨rfl, h2, h3, h4⟩ := hq
 exact ⟨.inl ⟨.bool true, .bool true, [], rfl, fun _ => rfl, .bool true, BJ l _, fun _ => ⟨List.Pairwise.nil, fun _ hm => (nomatch hm)⟩⟩, h2, h3, h4⟩
section
variable {prog : Program} {w : World} {A : Around} {E : Value -> Shared -> Prop} {s : Shared} {K : Frag}
end
end Att
namespace L2
open PySem PySem.Spec PyProof.Rows
theorem ux : ∀ {vs : List Value} {ns : List Int}, IntsAre vs ns -> Vals (ns.map V.int) vs
 | _, _, .nil => .nil
 | _, _, .cons n t h => .cons ⟨t, rfl⟩ (ux h)
def Only (H : Hp) : Prop := ∀ b, H b = none \/ ∃ o xs, H b = some (.frz o (.lst xs))
theorem Dj {P : Program} {w : World} {K : Frag} {mg mb : Str -> Option Value} {CX : CXT} {k : Nat} {fa a : Addr} {fd : FuncData} {x : Str} {sp : Sp} {s₁ : Shared} {vs : List Value} {ns : List Int}
  (KX : K.In s₁.heap) (hns : s₁.heap.Ns mainGlobals mg) (hb : s₁.heap.Ns builtinsNs mb) (hbb : ∀ x : Str, x ≠ "__name__" -> mb x = bootBuiltins x) (hlim : s₁.heap.NoLimit) (hg : s₁.gens = #[])
  (ha : s₁.heap.get? a = some { cls := .type "list", data := .seq vs.toArray }) (hi : IntsAre vs ns) (hl : ns.length <= sizeLine) (hr : aP k callerA)
  (F : ∀ base : Heap, K.In base -> base.Ns mainGlobals mg -> aM P w K mg base CX k fa fd [x] sp) (hbind : ∀ (s : Shared) (u : Value), BindsTo s fd ⟨[u], []⟩ [(x, u)])
  (hsp : ∀ H : Hp, Only H -> SqL K H a (ns.map V.int) -> sp [.ref a] H (fun v _ => v = .bl true) fun _ _ _ => False)
  (hCX : ∀ H e s', CX [] H s₁ (fun _ _ _ => False) e s' -> False) :
  codeAny (model P w) callerA (.call (.ref fa) ⟨[.ref a], []⟩) (fun r s' => r = .ok (.ret (.bool true)) /\ OldK s₁.heap s'.heap /\ s'.os = s₁.os /\ AllBare s'.gens) s₁ := by
 have rv := ux hi
 have lenV := hi.length
 have core : ∀ H : Hp, Only H -> SqL K H a (ns.map V.int) -> HOk P w H s₁.heap -> (∀ b, H b ≠ none -> b = a) -> (H a ≠ none -> K.lookup a = none) ->
   codeAny (model P w) callerA (.call (.ref fa) ⟨[.ref a], []⟩) (fun r s' => r = .ok (.ret (.bool true)) /\ OldK s₁.heap s'.heap /\ s'.os = s₁.os /\ AllBare s'.gens) s₁ := by
  intro H hO hS hok hA hK
  have base_of : ∀ {b : Addr} {o : Obj}, s₁.heap.get? b = some o -> H b = none -> (vC s₁.heap H).get? b = some o := fun e n => Eu e n
  have noA : ∀ {b : Addr} {o : Obj} {es : Array DictEntry} {ep : Nat}, s₁.heap.get? b = some o -> o.data = .dict es ep -> H b = none := fun {b o es ep} e d => by
   cases q : H b with
   | none => rfl
   | some u =>
    have e' : b = a := hA b (by rw [q]; simp)
    subst e'
    rw [ha] at e; cases e
    have d' : Data.seq vs.toArray _ = Data.dict es ep := d
    cases d'
  have nsK : ∀ {b : Addr} {m : Str -> Option Value}, s₁.heap.Ns b m -> (vC s₁.heap H).Ns b m := fun {b m} ⟨o, es, ep, e, d, r⟩ => ⟨o, es, ep, base_of e (noA e d), d, r⟩
  have hKb : K.In (vC s₁.heap H) := fun b o e => base_of (KX b o e) (by
   cases q : H b with
   | none => rfl
   | some u =>
    have e' : b = a := hA b (by rw [q]; simp)
    subst e'
    rw [hK (by rw [q]; simp)] at e; cases e)
  have hM : Mod K mg (vC s₁.heap H) := ⟨hKb, nsK hns, ⟨mb, nsK hb, hbb⟩, let ⟨mc, h1, h2⟩ := hlim; ⟨mc, nsK h1, h2⟩⟩
  have e0 : yJ P w K mg (vC s₁.heap H) callerA [] s₁ H := ⟨rfl, hM, fun b o e => Gd e, le_of_eq (Ak _ _), trivial, fun b hb => absurd (show b ∈ ([] : List Addr) from hb) Z2, hok, .of_eq hg⟩
  refine codeAny_mono ((F _ hKb (nsK hns)).run callerA [] s₁ H ⟨[.ref a], []⟩ [.ref a] [.ref a] _ _ hr e0 (hbind s₁ (.ref a)) (.cons rfl .nil) (hsp H hO hS)) fun r s' h => ?_
  cases r with
  | error e => exact (hCX H e s' h).elim
  | ok fl =>
   cases fl with
   | next => exact False.elim h
   | brk => exact False.elim h
   | cont => exact False.elim h
   | ret u =>
    obtain ⟨v, H', os, bare, un, hok', r', q⟩ := h
    have q' : v = .bl true := q
    subst q'
    obtain rfl : u = Value.bool true := r'
    refine ⟨rfl, OldK.of_keep fun b o e => ?_, os, bare⟩
    cases q : H b with
    | none => exact un.keep b o e q (by intro z; exact absurd (show b ∈ ([] : List Addr) from z) Z2) Z2
    | some u =>
     rcases hO b with z | ⟨ob, xs, z⟩
     ·rw [q] at z; cases z
     ·have z2 := un.frzs b ob _ z
      obtain ⟨e1, _⟩ := hok b _ z
      obtain ⟨e2, _⟩ := hok' b _ z2
      rw [e] at e1; cases e1
      exact e2
 cases hk : K.lookup a with
 | some o =>
  have e := KX a o hk
  rw [ha] at e
  cases e
  refine core (fun _ => none) (fun _ => .inl rfl) (.inr ⟨_, vs.toArray, _, hk, rfl, rfl, rfl, by rw [size_toArray, lenV]; exact hl, by simpa using rv⟩) (fun b u z => by have z' : (none : Option HO) = some u := z; cases z') (fun b z => absurd rfl z) fun z => absurd rfl z
 | none =>
  refine core (fun b => if b = a then some (.frz { cls := .type "list", data := .seq vs.toArray } (.lst (ns.map V.int))) else none) (fun b => ?_) (.inl (.inr ⟨{ cls := .type "list", data := .seq vs.toArray }, if_pos rfl⟩)) (fun b u z => ?_) (fun b z => ?_) fun _ => hk
  ·by_cases hb : b = a
   ·exact .inr ⟨_, _, if_pos hb⟩
   ·exact .inl (if_neg hb)
  ·by_cases hb : b = a
   ·have z' := (if_pos hb).symm.trans z
    cases z'
    subst hb
    exact ⟨ha, by rw [length_map]; exact hl, vs, _, rv, ha⟩
   ·have z' := (if_neg hb).symm.trans z
    cases z'
  ·by_cases hb : b = a
   ·exact hb
   ·exact absurd (if_neg hb) z
theorem Fj {l : OpenLaw} {n k : Nat} {q : Program} {loose : List Str} {XP : (Str -> Option Value) -> Heap -> Prop} {YP : World -> Heap -> Prop} {d : DefRec} {K : Params -> Frag} {CX : World -> CXT} {sp : World -> Sp} {x : Str}
  (hn : l.most = some n) (hn2 : n <= sizeLine) (hdf : d.params.defaults = []) (hr : aP k callerA)
  (hY : ∀ (w : World) (h : Heap), YP w h -> (K w.params).In h)
  (F : ∀ (w : World) (mg : Str -> Option Value) (fa : Addr) (h : Heap), (K w.params).In h -> h.Ns mainGlobals mg -> mg d.name = some (.ref fa) ->
   ∃ fd : FuncData, (∀ (s : Shared) (u : Value), BindsTo s fd ⟨[u], []⟩ [(x, u)]) /\
    ∀ base : Heap, (K w.params).In base -> base.Ns mainGlobals mg -> aM l.prog w (K w.params) mg base (CX w) k fa fd [x] (sp w))
  (hsp : ∀ (w : World) (H : Hp) (a : Addr) (ns : List Int), ns.length <= n -> Only H -> SqL (K w.params) H a (ns.map V.int) -> sp w [.ref a] H (fun v _ => v = .bl true) fun _ _ _ => False)
  (hCX : ∀ (w : World) (H : Hp) (s : Shared) (e : Value) (s' : Shared), CX w [] H s (fun _ _ _ => False) e s' -> False) :
  WalkO q loose XP YP l.row.toRowW d [] (fun f vs => PySem.call f vs) := by
 refine Att.attach_call hn hdf fun w s₀ s₁ mg mb fa o pm cd doc a vs ns G Y ho hd hcd hmg hobj hints hlen hg => ?_
 have KX := hY w _ Y
 obtain ⟨fd, hb, hF⟩ := F w mg fa _ KX G.T.g hmg
 exact Dj KX G.T.g G.T.b G.T.builtins G.T.nolimit hg hobj hints (le_trans hlen hn2) hr hF hb (fun H hO hS => hsp w H a ns hlen hO hS) fun H e s' => hCX w H s₁ e s'
def cH (s : Stmt) : Arguments := match s with
 | .FunctionDef _ a _ _ _ _ _ _ _ _ => a
 | _ => { posonlyargs := [], args := [], vararg := none, kwonlyargs := [], kw_defaults := [], kwarg := none, defaults := [] }
def bR (s : Stmt) : List Stmt := match s with
 | .FunctionDef _ _ b _ _ _ _ _ _ _ => b
 | _ => []
def aC (s : Stmt) : Scope := match s with
 | .FunctionDef _ _ _ _ _ _ sc _ _ _ => sc
 | _ => { kind := .function, names := [], isGenerator := false, isCoroutine := false }
abbrev CX0 : CXT := fun _ _ _ _ _ _ => False
abbrev E0 : XK := fun _ _ _ => False
theorem qP {X : Cx} : jM CX0 X E0 := fun _ _ _ _ _ _ _ h => h.elim
structure Fun (K : Frag) (x qual : Str) (st : Stmt) (f : Addr) (fd : FuncData) : Prop where
 ex : ∃ (oc : Value) (od : Option Addr) (kV doc pm : Value) (an : Option Addr) (cdv ct : Value) (osl : Array (Option Value)),
  fd = fnOf x qual (cH st) (bR st) (aC st) .none kV doc pm an cdv ct /\ K.lookup f = some ⟨oc, od, .func fd, osl⟩ /\ codeIn K cdv qual = true
 kp : keepIn K (.ref f) = true
section
variable {P : Program} {w : World} {K : Frag} {mg : Str -> Option Value} {base : Heap}
theorem Fun.ok {x qual : Str} {st : Stmt} {f : Addr} {fd : FuncData} {N ps : List Str} {k : Nat} {sp : Sp} (F : Fun K x qual st f fd) (S : aH N ps (aC st)) (len : ∀ vs H Q E, sp vs H Q E -> vs.length = ps.length)
  (hbody : ∀ (cdv : Value) (A : Around) (outer : List Env) (s : Shared) (H : Hp) (vs : List V) (Q : VK) (E : XK), aP k (A.deeper (envOfC qual (aC st) s.heap.objs.size f cdv)) -> sp vs H Q E ->
   ∃ t, PSs (m9 CX0 P w K mg base N qual (aC st) f cdv A outer s H E).nox (bR st) t /\ t { nx := fun _ H' => Q .non H', rt := Q } (start N vs) H) : aM P w K mg base CX0 (k + 1) f fd ps sp := by
 obtain ⟨oc, od, kV, doc, pm, an, cdv, ct, osl, rfl, lk, hcd⟩ := F.ex
 refine Hg lk hcd S len fun A outer s H vs Q E hr hsp => ?_
 obtain ⟨t, h, q⟩ := hbody cdv A outer s H vs Q E hr hsp
 exact ⟨t, h.nox, q⟩
theorem Fun.binds {x qual : Str} {st : Stmt} {f : Addr} {fd : FuncData} {ps : List Str} (F : Fun K x qual st f fd)
  (h : ∀ (kV doc pm : Value) (an : Option Addr) (cdv ct : Value) (us : List Value), us.length = ps.length -> bindArgs (fnOf x qual (cH st) (bR st) (aC st) .none kV doc pm an cdv ct) ⟨us, []⟩ = pure (ps.zip us)) : Binds K fd ps [] := by
 obtain ⟨oc, od, kV, doc, pm, an, cdv, ct, osl, rfl, lk, hcd⟩ := F.ex
 exact .all (h kV doc pm an cdv ct)
theorem Ds {x qual : Str} {st : Stmt} {f : Addr} {oc : Value} {od an : Option Addr} {osl : Array (Option Value)} {kV doc pm cdv ct : Value} (l : K.lookup f = some ⟨oc, od, .func (fnOf x qual (cH st) (bR st) (aC st) .none kV doc pm an cdv ct), osl⟩)
  (c : codeIn K cdv qual = true) (k : keepIn K (.ref f) = true) : Fun K x qual st f (fnOf x qual (cH st) (bR st) (aC st) .none kV doc pm an cdv ct) := ⟨⟨oc, od, kV, doc, pm, an, cdv, ct, osl, rfl, l, c⟩, k⟩
end
section
variable {X : Cx}
theorem pv (i : Nat) {x : Str} {pos : Pos} (hN : X.N[i]? = some x := by rfl) (hv : Vis X.env.scope x := by first | exact Or.inl rfl | exact Or.inr (Or.inl rfl) | exact Or.inr (Or.inr rfl)) (hd : (x == ("__debug__" : Str)) = false := by decide)
  (hcd : (x == ("__classdict__" : Str)) = false := by decide) : PE X (.Name x pos) (Kv i) := HY hN hv hd hcd
end
theorem qg {A B : Prop} (h : B) : if false = true then A else B := by
 rw [if_neg Bool.false_ne_true]
 exact h
theorem T9 {A B : Prop} (h : A) : if true = true then A else B := by
 rw [if_pos rfl]
 exact h
def au (H H' : Hp) : Prop := ∀ b o, H b = some o -> H' b = some o
theorem au.refl (H : Hp) : au H H := fun _ _ h => h
theorem au.trans {H H1 H2 : Hp} (a : au H H1) (b : au H1 H2) : au H H2 := fun c o h => b c o (a c o h)
theorem au.free {H H' : Hp} (e : au H H') {l : Addr} (h : H' l = Option.none) : H l = Option.none := by
 cases q : H l with
 | none => rfl
 | some o =>
  rw [e l o q] at h
  cases h
theorem au.seq {K : Frag} {H H' : Hp} {a : Addr} {xs : List V} (e : au H H') (h : SqL K H a xs) : SqL K H' a xs := by
 rcases h with (h | ⟨o, h⟩) | h
 ·exact .inl (.inl (e _ _ h))
 ·exact .inl (.inr ⟨o, e _ _ h⟩)
 ·exact .inr h
section
variable {κ : Type} [DecidableEq κ]
def dR (kvs : List (κ × V)) (k : κ) : Option V := (kvs.find? fun kv => decide (kv.1 = k)).map (·.2)
def putK (kvs : List (κ × V)) (k : κ) (v : V) : List (κ × V) :=
 if (kvs.any fun kv => decide (kv.1 = k)) = true then kvs.map (fun kv => if kv.1 = k then (kv.1, v) else kv) else kvs ++ [(k, v)]
theorem cV {p : κ × V} {r : List (κ × V)} {k : κ} (e : p.1 = k) : dR (p :: r) k = some p.2 := by simp [dR, find?_cons, e]
theorem cT {p : κ × V} {r : List (κ × V)} {k : κ} (e : ¬ p.1 = k) : dR (p :: r) k = dR r k := by simp [dR, find?_cons, e]
theorem ir (k : κ) : ∀ kvs : List (κ × V), (kvs.any fun kv => decide (kv.1 = k)) = (dR kvs k).isSome
 | [] => rfl
 | p :: r => by
  rw [any_cons]
  by_cases e : p.1 = k
  ·simp only [cV e, decide_eq_true e, Bool.true_or, Option.isSome_some]
  ·rw [cT e, decide_eq_false e, Bool.false_or]; exact ir k r
theorem wu (k j : κ) (y : V) : ∀ kvs : List (κ × V), dR (kvs.map fun kv => if kv.1 = k then (kv.1, y) else kv) j = (dR kvs j).map fun x => if j = k then y else x
 | [] => rfl
 | p :: r => by
  have ih := wu k j y r
  rw [map_cons]
  by_cases h : p.1 = k
  ·rw [if_pos h]
   by_cases e : p.1 = j
   ·rw [cV (p := (p.1, y)) e, cV e, map_some, if_pos (e.symm.trans h)]
   ·rw [cT (p := (p.1, y)) e, cT e, ih]
  ·rw [if_neg h]
   by_cases e : p.1 = j
   ·rw [cV (p := p) e, cV e, map_some, if_neg (fun z => h (e.trans z))]
   ·rw [cT (p := p) e, cT e, ih]
theorem ul (k j : κ) (y : V) : ∀ kvs : List (κ × V), dR kvs k = none -> dR (kvs ++ [(k, y)]) j = if j = k then some y else dR kvs j
 | [], _ => by
  by_cases e : k = j
  ·rw [if_pos e.symm]; exact cV (p := (k, y)) e
  ·rw [if_neg (fun z => e z.symm)]; exact cT (p := (k, y)) e
 | p :: r, hn => by
  rw [List.cons_append]
  have hk : ¬ p.1 = k := fun z => by rw [cV z] at hn; cases hn
  rw [cT hk] at hn
  have ih := ul k j y r hn
  by_cases e : p.1 = j
  ·rw [cV e, cV e, if_neg (fun z => hk (e.trans z))]
  ·rw [cT e, cT e, ih]
theorem lA (kvs : List (κ × V)) (k j : κ) (y : V) : dR (putK kvs k y) j = if j = k then some y else dR kvs j := by
 unfold putK
 by_cases a : (kvs.any fun kv => decide (kv.1 = k)) = true
 ·rw [if_pos a, wu]
  rw [ir] at a
  by_cases e : j = k
  ·obtain ⟨x, hx⟩ := Option.isSome_iff_exists.mp a
   rw [if_pos e, e, hx, map_some, if_pos rfl]
  ·rw [if_neg e]
   cases dR kvs j with
   | none => rfl
   | some x => rw [map_some, if_neg e]
 ·rw [if_neg a]
  refine ul k j y kvs ?_
  rw [ir] at a
  cases q : dR kvs k with
  | none => rfl
  | some x => rw [q] at a; exact (a rfl).elim
theorem gh (kvs : List (κ × V)) (k : κ) (v : V) : (putK kvs k v).length <= kvs.length + 1 := by
 unfold putK
 split
 ·rw [length_map]; omega
 ·rw [length_append, length_cons, List.length_nil]; omega
theorem jF.isSome_eq {o : Option V} {u : Option Value} (r : jF o u) : o.isSome = u.isSome := by
 cases o with
 | none => cases u with
  | none => rfl
  | some _ => exact (show False from r).elim
 | some _ => cases u with
  | none => exact (show False from r).elim
  | some _ => rfl
theorem KV.val {kvs : List (κ × V)} {vs : List (κ × Value)} (r : KV kvs vs) (k : κ) : jF (dR kvs k) (valueAt vs k) := by
 unfold KV at r
 induction r with
 | nil => exact True.intro
 | @cons p q ps qs h t ih =>
  obtain ⟨h1, h2⟩ := h
  by_cases e : p.1 = k
  ·have e' : q.1 = k := h1.symm.trans e
   have b : valueAt (q :: qs) k = some q.2 := by simp [valueAt, find?_cons, e']
   rw [cV e, b]; exact h2
  ·have e' : ¬ q.1 = k := fun z => e (h1.trans z)
   have b : valueAt (q :: qs) k = valueAt qs k := by simp [valueAt, find?_cons, e']
   rw [cT e, b]; exact ih
theorem KV.any {kvs : List (κ × V)} {vs : List (κ × Value)} (r : KV kvs vs) (k : κ) : (kvs.any fun kv => decide (kv.1 = k)) = vs.any fun kv => decide (kv.1 = k) := by
 unfold KV at r
 induction r with
 | nil => rfl
 | cons h t ih => rw [any_cons, any_cons, ih, h.1]
theorem KV.repl {kvs : List (κ × V)} {vs : List (κ × Value)} (r : KV kvs vs) (k : κ) {y : V} {u : Value} (ry : RelV y u) :
  KV (kvs.map fun kv => if kv.1 = k then (kv.1, y) else kv) (vs.map fun kv => if kv.1 = k then (kv.1, u) else kv) := by
 unfold KV at r ⊢
 induction r with
 | nil => exact .nil
 | @cons p q ps qs h t ih =>
  rw [map_cons, map_cons]
  refine .cons ?_ ih
  obtain ⟨h1, h2⟩ := h
  by_cases e : p.1 = k
  ·rw [if_pos e, if_pos (h1.symm.trans e)]; exact ⟨h1, ry⟩
  ·rw [if_neg e, if_neg (fun z => e (h1.trans z))]; exact ⟨h1, h2⟩
theorem KV.put {kvs : List (κ × V)} {vs : List (κ × Value)} (r : KV kvs vs) (k : κ) {y : V} {u : Value} (ry : RelV y u) : KV (putK kvs k y) (stored vs k u) := by
 unfold putK stored
 rw [r.any k]
 by_cases e : (vs.any fun kv => decide (kv.1 = k)) = true
 ·rw [if_pos e, if_pos e]; exact r.repl k ry
 ·rw [if_neg e, if_neg e]; exact Paired.snoc r ⟨rfl, ry⟩
theorem KV.length {kvs : List (κ × V)} {vs : List (κ × Value)} (r : KV kvs vs) : kvs.length = vs.length := Paired.length r
end
theorem zE {P : Program} {w : World} {k : Key} {u : Value} (r : RelV (kV k) u) : (bQ P w).is k u = true := by
 cases k with
 | inl i => obtain ⟨t, e⟩ := (show ∃ t, u = Value.int i t from r); subst e; exact wF P w i t
 | inr x => obtain ⟨t, e⟩ := (show ∃ t, u = Value.str x t from r); subst e; exact wY P w x t
theorem uA {P : Program} {w : World} : ∀ {ks : List Key} {us : List Value}, Vals (ks.map kV) us -> ItemsAre (bQ P w) ks us
 | [], _, r => by rw [map_nil] at r; cases r; exact .nil
 | k :: ks, _, r => by
  rw [map_cons] at r
  cases r with
  | cons h t => exact .cons (zE h) (uA t)
abbrev KT (H : Hp) : List (List Key × V) -> List (List Key × Addr × Value) -> Prop := Paired fun p q => p.1 = q.1 /\ H q.2.1 = some (.tup (p.1.map kV)) /\ RelV p.2 q.2.2
theorem KT.val {H : Hp} {kvs : List (List Key × V)} {xs : List (List Key × Addr × Value)} (r : KT H kvs xs) (k : List Key) : jF (dR kvs k) ((atKey xs k).map (·.2)) := by
 induction r with
 | nil => exact True.intro
 | @cons p q ps qs h t ih =>
  obtain ⟨h1, _, h2⟩ := h
  by_cases e : p.1 = k
  ·have e' : q.1 = k := h1.symm.trans e
   have b : atKey (q :: qs) k = some q.2 := by simp [atKey, find?_cons, e']
   rw [cV e, b]; exact h2
  ·have e' : ¬ q.1 = k := fun z => e (h1.trans z)
   have b : atKey (q :: qs) k = atKey qs k := by simp [atKey, find?_cons, e']
   rw [cT e, b]; exact ih
theorem KT.repl {H : Hp} {kvs : List (List Key × V)} {xs : List (List Key × Addr × Value)} (r : KT H kvs xs) (k : List Key) {y : V} {u : Value} (ry : RelV y u) :
  KT H (kvs.map fun kv => if kv.1 = k then (kv.1, y) else kv) (xs.map (putAt k u)) := by
 induction r with
 | nil => exact .nil
 | @cons p q ps qs h t ih =>
  rw [map_cons, map_cons]
  refine .cons ?_ ih
  obtain ⟨h1, h2, h3⟩ := h
  unfold putAt
  by_cases e : p.1 = k
  ·rw [if_pos e, if_pos (h1.symm.trans e)]; exact ⟨h1, h2, ry⟩
  ·rw [if_neg e, if_neg (fun z => e (h1.trans z))]; exact ⟨h1, h2, h3⟩
theorem KT.put {H : Hp} {kvs : List (List Key × V)} {xs : List (List Key × Addr × Value)} (r : KT H kvs xs) (k : List Key) {b : Addr} {y : V} {u : Value} (hb : H b = some (.tup (k.map kV))) (ry : RelV y u) :
  KT H (putK kvs k y) (storedH xs k b u) := by
 have e : (kvs.any fun kv => decide (kv.1 = k)) = (atKey xs k).isSome := by
  rw [ir, (r.val k).isSome_eq, Option.isSome_map]
 unfold putK storedH
 rw [e]
 by_cases q : (atKey xs k).isSome = true
 ·rw [if_pos q, if_pos q]; exact r.repl k ry
 ·rw [if_neg q, if_neg q]; exact Paired.snoc r ⟨rfl, hb, ry⟩
theorem KT.keeps {H H' : Hp} {kvs : List (List Key × V)} {xs : List (List Key × Addr × Value)} (r : KT H kvs xs) (ht : ∀ b ys, H b = some (.tup ys) -> H' b = some (.tup ys)) : KT H' kvs xs :=
 Paired.mapP r fun _ _ z => ⟨z.1, ht _ _ z.2.1, z.2.2⟩
section
variable {P : Program} {w : World} {H : Hp} {h : Heap} {a : Addr}
theorem Hi {u : HO} (ok : HOk P w H h) (e : Rd H a u) : bF P w H h a u := e.ok ok
theorem zF {kvs : List (Key × V)} (ok : HOk P w H h) (e : Rd H a (.dK kvs)) : kvs.length <= sizeLine /\ (a == sysModules) = false /\ ∃ vs, KV kvs vs /\ h.DictOf (bQ P w) a vs :=
 show bF P w H h a (.dK kvs) from Hi ok e
theorem G6 {kvs : List (Key × V)} (ok : HOk P w H h) (e : H a = some (.dK kvs)) : kvs.length <= sizeLine /\ (a == sysModules) = false /\ ∃ vs, KV kvs vs /\ h.DictOf (bQ P w) a vs := zF ok (.inl e)
theorem uD {ks : List Key} (ok : HOk P w H h) (e : H a = some (.tup (ks.map kV))) : (tupleKind (bQ P w)).is h ks a := by
 obtain ⟨_, its, r, o, h1, h2, n, h3⟩ := (show bF P w H h a (.tup (ks.map kV)) from ok a _ e)
 exact ⟨o, its.toArray, n, h1, h2, h3, by simpa using uA r⟩
theorem zW {kvs : List (List Key × V)} (ok : HOk P w H h) (e : Rd H a (.dT kvs)) : kvs.length <= sizeLine /\ (a == sysModules) = false /\
  ∃ xs, KT H kvs xs /\ h.DictOfH (tupleKind (bQ P w)) a xs := by
 obtain ⟨z, y, xs, r, o, es, ep, h1, h2, h3, h4, h5⟩ := (show bF P w H h a (.dT kvs) from Hi ok e)
 refine ⟨z, y, xs, r, o, es, ep, h1, h2, h3, h4, fun x hx => ?_, h5⟩
 have all : ∀ {l : List (List Key × V)} {m : List (List Key × Addr × Value)}, KT H l m -> ∀ x ∈ m, (tupleKind (bQ P w)).is h x.1 x.2.1 := by
  intro l m q
  induction q with
  | nil => intro x hx; exact nomatch hx
  | @cons p q ps qs hq t ih =>
   intro x hx
   rcases mem_cons.mp hx with e | hx
   ·subst e
    exact uD ok (by rw [<- hq.1]; exact hq.2.1)
   ·exact ih x hx
 exact all r x hx
theorem Sq {kvs : List (List Key × V)} (ok : HOk P w H h) (e : H a = some (.dT kvs)) : kvs.length <= sizeLine /\ (a == sysModules) = false /\
  ∃ xs, KT H kvs xs /\ h.DictOfH (tupleKind (bQ P w)) a xs := zW ok (.inl e)
end
def jD (H : Hp) (a : Addr) (y : V) (r : Option V) : Prop :=
 (∃ kvs k, Rd H a (.dK kvs) /\ y = kV k /\ r = dR kvs k) \/ ∃ kvs k b, Rd H a (.dT kvs) /\ y = .ref b /\ H b = some (.tup (k.map kV)) /\ r = dR kvs k
def n8 (H : Hp) (a : Addr) (y v : V) (H' : Hp) : Prop :=
 (∃ kvs k, H a = some (.dK kvs) /\ y = kV k /\ kvs.length < sizeLine /\ H' = upd H a (.dK (putK kvs k v))) \/
 ∃ kvs k b, H a = some (.dT kvs) /\ y = .ref b /\ H b = some (.tup (k.map kV)) /\ kvs.length < sizeLine /\ H' = upd H a (.dT (putK kvs k v))
theorem jD.k {H : Hp} {a : Addr} {kvs : List (Key × V)} {k : Key} (e : H a = some (.dK kvs)) : jD H a (kV k) (dR kvs k) := .inl ⟨kvs, k, .inl e, rfl, rfl⟩
theorem n8.k {H : Hp} {a : Addr} {kvs : List (Key × V)} {k : Key} {v : V} (e : H a = some (.dK kvs)) (hl : kvs.length < sizeLine) : n8 H a (kV k) v (upd H a (.dK (putK kvs k v))) := .inl ⟨kvs, k, e, rfl, hl, rfl⟩
section
variable {X : Cx} {pins : List (Addr × Obj)} {σ : St} {H : Hp} {s : Shared} {a : Addr} {y v : V} {u r : Value} {o : Option V} {A : Around} {E : Value -> Shared -> Prop}
theorem Inv.big (I : Inv X pins σ H s) : sysModules < s.heap.objs.size := by
 have h : mainGlobals < s.heap.objs.size := (I.mod.glob.keeps I.bk).lt
 exact Nat.lt_trans Z0 h
theorem Aq {Q : Value -> Shared -> Prop} (hu : A.units + 1 < cLine) (I : Inv X pins σ H s) (g : jD H a y (some v)) (ry : RelV y u) (h : ∀ w' s', Inv X pins σ H s' -> RelV v w' -> Q w' s') :
  wpAny (model X.prog X.w) A (getItem (.ref a) u) Q E s := by
 rcases g with ⟨kvs, k, e, ey, l⟩ | ⟨kvs, k, b, e, ey, eb, l⟩
 ·subst ey
  obtain ⟨z, hd, vs, rel, dd⟩ := zF I.hok e
  obtain ⟨w', hw, rw'⟩ := jF.some_of (v := v) (o := valueAt vs k) (by rw [l]; exact rel.val k)
  exact wpAny_getItem_of (zE ry) dd.mapOf hw (h w' _ (I.tok _) rw')
 ·subst ey
  cases (show u = Value.ref b from ry)
  obtain ⟨z, hd, xs, rel, dd⟩ := zW I.hok e
  obtain ⟨w', hw, rw'⟩ := jF.some_of (v := v) (o := (atKey xs k).map (·.2)) (by rw [l]; exact rel.val k)
  obtain ⟨p, hp, hp2⟩ := Option.map_eq_some_iff.mp hw
  refine wpAny_getItem_heap (tupleKind_room_in1 hu) (uD I.hok eb) dd hp ?_
  rw [hp2]
  exact h w' _ (I.tok _) rw'
theorem GK {Q : Value -> Shared -> Prop} (hu : A.units + 1 < cLine) (I : Inv X pins σ H s) (g : jD H a y o) (ry : RelV y u) (h : ∀ s', Inv X pins σ H s' -> Q (.bool (!o.isSome)) s') :
  wpAny (model X.prog X.w) A (compareOp .NotIn u (.ref a)) Q E s := by
 rcases g with ⟨kvs, k, e, ey, l⟩ | ⟨kvs, k, b, e, ey, eb, l⟩
 ·subst ey
  obtain ⟨z, hd, vs, rel, dd⟩ := zF I.hok e
  refine wpAny_notIn_of (zE ry) hd dd.mapOf ?_
  rw [<- (rel.val k).isSome_eq, <- l]
  exact h _ (I.tok _)
 ·subst ey
  cases (show u = Value.ref b from ry)
  obtain ⟨z, hd, xs, rel, dd⟩ := zW I.hok e
  refine wpAny_notIn_heap (tupleKind_room_in1 hu) (uD I.hok eb) hd dd ?_
  have q := (rel.val k).isSome_eq
  rw [Option.isSome_map] at q
  rw [<- q, <- l]
  exact h _ (I.tok _)
theorem zP {h' : Heap} {t' : Nat} {ob : HO} (I : Inv X pins σ H s) (mu : Mut (H a)) (hs : Heap.SameBut a s.heap h') (he : ∃ q, h'.get? a = some q) (new : bF X.prog X.w (upd H a ob) h' a ob) :
  Inv X pins σ (upd H a ob) { s with heap := h', toks := t' } :=
 I.write (x := a) (e := a) mu (.inl rfl) (fun b q hb z => (hs.2 b hb).trans z) he new
theorem Jz {P : Program} {w : World} {H' : Hp} {h' : Heap} {kvs : List (Key × V)} {vs : List (Key × Value)} (z : kvs.length <= sizeLine) (hd : (a == sysModules) = false) (rel : KV kvs vs) (dd : h'.DictOf (bQ P w) a vs) :
  bF P w H' h' a (.dK kvs) := ⟨z, hd, vs, rel, dd⟩
theorem Bt {H' : Hp} {Q : Unit -> Shared -> Prop} (hu : A.units + 1 < cLine) (I : Inv X pins σ H s) (g : n8 H a y v H') (ry : RelV y u) (rv : RelV v r) (h : ∀ s', Inv X pins σ H' s' -> Q () s') :
  wpAny (model X.prog X.w) A (setItem (.ref a) u r) Q E s := by
 rcases g with ⟨kvs, k, e, ey, l, eH⟩ | ⟨kvs, k, b, e, ey, eb, l, eH⟩
 ·subst ey eH
  obtain ⟨z, hd, vs, rel, dd⟩ := G6 I.hok e
  have hz : vs.length <= sizeLine := by rw [<- rel.length]; exact z
  have hl : (putK kvs k v).length <= sizeLine := by have := gh kvs k v; omega
  refine wpAny_setItem_pairs (hsz := hz) (zE ry) dd fun h' dd' hs => h _ ?_
  have he : ∃ q, h'.get? a = some q := let ⟨q, _, _, hq, _⟩ := dd'; ⟨q, hq⟩
  exact zP I (by rw [e]; exact True.intro) hs he (Jz hl hd (rel.put k rv) dd')
 ·subst ey eH
  cases (show u = Value.ref b from ry)
  obtain ⟨z, hd, xs, rel, dd⟩ := Sq I.hok e
  have hz : xs.length <= sizeLine := by rw [<- Paired.length rel]; exact z
  have hl : (putK kvs k v).length <= sizeLine := by have := gh kvs k v; omega
  refine wpAny_setItem_heap (hsz := hz) (tupleKind_room_in1 hu) (uD I.hok eb) dd fun h' dd' hs => h _ ?_
  obtain ⟨q, es, ep, hq, h2, h3, h4, _, h5⟩ := dd'
  refine zP I (by rw [e]; exact True.intro) hs ⟨q, hq⟩ ⟨hl, hd, _, (rel.put k eb rv).keeps fun c ys ec => ?_, q, es, ep, hq, h2, h3, h4, h5⟩
  rw [aF (kI ec e (fun z => nomatch z))]
  exact ec
end
section
variable {X : Cx} {pins : List (Addr × Obj)} {σ : St} {H : Hp} {s : Shared} {a : Addr} {kvs : List (Key × V)} {k : Key} {u : Value} {A : Around} {E : Value -> Shared -> Prop}
end
def PL (i : Expr) : Prop := ∀ ov iv, subscripted i false ov iv = operate [ov, iv] (getItem ov iv)
theorem Fi {prog : Program} {w : World} {A : Around} {E : Value -> Shared -> Prop} {s : Shared} {env : Env} {value slice : Expr} {pos : Pos} {T id : String} {Q : Value -> Shared -> Prop}
  (hl : typeLookup (.type T) "__getitem__" = pure (some (.builtin id))) (hs : PL slice)
  (h : wpAny (model prog w) A (eval value env) (fun o s₁ => wpAny (model prog w) A (eval slice env) (fun i s₂ => s₂.TypeIs o T /\ wpAny (model prog w) A (getItem o i) Q E s₂) E s₁) E s) :
  wpAny (model prog w) A (eval (.Subscript value slice pos) env) Q E s := by
 refine Subscript_ (wpAny_mono h (fun o s₁ h₁ => wpAny_mono h₁ (fun i s₂ h₂ => ?_) fun _ _ x => x) fun _ _ x => x)
 obtain ⟨hT, h₂⟩ := h₂
 unfold subscriptTail
 refine wpAny_bind ?_
 rw [getitemInPython_of_ne hT.not_modules]
 refine wpAny_bind (wpAny_specialOf hT hl ?_)
 have fin : wpAny (model prog w) A (subscripted slice false o i) (fun r s₃ => wpAny (model prog w) A (letTemporaryGo value o r >>= fun _ => pure r) Q E s₃) E s₂ := by
  rw [hs o i]
  exact wpAny_operating (wpAny_mono h₂ (fun r s₃ h₃ => wpAny_bind (wpAny_letTemporaryGo (wpAny_pure h₃))) fun _ _ x => x)
 first
  | exact wpAny_pure (wpAny_bind fin)
  | exact wpAny_bind (wpAny_pure (wpAny_bind fin))
  | exact wpAny_bind fin
theorem wy {X : Cx} {pins : List (Addr × Obj)} {σ : St} {H : Hp} {s : Shared} {a : Addr} {y : V} {o : Option V} (I : Inv X pins σ H s) (g : jD H a y o) : s.TypeIs (.ref a) "dict" := by
 rcases g with ⟨kvs, k, e, _, _⟩ | ⟨kvs, k, b, e, _, _, _⟩
 ·obtain ⟨_, _, vs, _, dd⟩ := zF I.hok e
  exact dd.typeIs
 ·obtain ⟨_, _, xs, _, dd⟩ := zW I.hok e
  exact dd.typeIs
def QF (td ty : TE) : TE := fun σ H Q => td σ H fun x H1 => ty σ H1 fun y H2 => ∃ a v, x = .ref a /\ jD H2 a y (some v) /\ Q v H2
def GX (ty td : TE) : TE := fun σ H Q => ty σ H fun y H1 => td σ H1 fun x H2 => ∃ a o, x = .ref a /\ jD H2 a y o /\ Q (.bl (!o.isSome)) H2
def JS (td ty tv : TE) : TS := fun D σ H => tv σ H fun v H1 => td σ H1 fun x H2 => ty σ H2 fun y H3 => ∃ a H4, x = .ref a /\ n8 H3 a y v H4 /\ D.nx σ H4
section
variable {X : Cx} {o i e value : Expr} {pos pos' tpos : Pos} {td ty tv : TE}
theorem cz (hu : X.A.units + 1 < cLine) (ho : PE X o td) (hi : PE X i ty) (hs : PL i) : PE X (.Subscript o i pos) (QF td ty) := by
 intro pins s σ H Q I h
 refine Fi PySem.F.slot_dict_getitem.lookup hs (thn (ho pins s σ H _ I h) fun u s1 ⟨x, H1, I1, rx, q1⟩ => thn (hi pins s1 σ H1 _ I1 q1) fun iv s2 ⟨y, H2, I2, ry, a, v, ex, g, q2⟩ => ?_)
 subst ex
 obtain rfl : u = Value.ref a := rx
 exact ⟨wy I2 g, Aq hu I2 g ry fun w' s3 I3 rw' => ⟨v, H2, I3, rw', q2⟩⟩
theorem uz (hu : X.A.units + 1 < cLine) (hi : PE X i ty) (ho : PE X o td) : PC X .NotIn i o (GX ty td) := by
 intro pins s σ H Q I h
 refine thn (hi pins s σ H _ I h) fun iv s1 ⟨y, H1, I1, ry, q1⟩ => thn (ho pins s1 σ H1 _ I1 q1) fun u s2 ⟨x, H2, I2, rx, a, ov, ex, g, q2⟩ => ?_
 subst ex
 obtain rfl : u = Value.ref a := rx
 exact GK hu I2 g ry fun s3 I3 => ⟨.bl (!ov.isSome), H2, I3, rfl, q2⟩
theorem fQ (hu : X.A.units + 1 < cLine) (ho : PE X o td) (hi : PE X i ty) (hv : PE X value tv) (hs : swapsWith value (some (.Subscript o i pos')) pos.line X.env = pure false) :
  PS X (.Assign [.Subscript o i pos'] value pos) (JS td ty tv) := by
 intro pins s σ H D I h
 refine wpAny_Assign_Subscript (thn (hv pins s σ H _ I h) fun r s1 ⟨v, H1, I1, rv, q1⟩ => thn (ho pins s1 σ H1 _ I1 q1) fun u s2 ⟨x, H2, I2, rx, q2⟩ => thn (hi pins s2 σ H2 _ I2 q2) fun iv s3 ⟨y, H3, I3, ry, a, H4, ex, g, q3⟩ => ?_) hs
 subst ex
 obtain rfl : u = Value.ref a := rx
 exact Bt hu I3 g ry rv fun s4 I4 => ⟨σ, H4, I4, q3⟩
end
theorem Er {P : Program} {w : World} {H : Hp} (h : Heap) (hb : sysModules < h.objs.size) : bF P w H (h.push { cls := .type "dict", data := .dict #[] }) h.objs.size (.dK []) :=
 ⟨zero_le _, beq_eq_false_iff_ne.mpr (Ne.symm (ne_of_lt hb)), [], .nil, Heap.DictOf.new h⟩
def Jp : TE := fun _ H Q => ∀ p, H p = none -> Q (.ref p) (upd H p (.dK []))
section
variable {X : Cx} {pos : Pos}
theorem fu : PE X (.Dict [] [] pos) Jp := fun pins s σ H Q I h =>
 wpAny_Dict_empty ⟨.ref s.heap.objs.size, _, I.laid (a := s.heap.objs.size) (o := .dK []) (t' := s.toks) (fun _ _ q => Heap.get?_push_of_some _ q) (le_refl _) (Er s.heap I.big), rfl, h _ (I.hok.fresh (le_refl _))⟩
end
section
variable {X : Cx} {pins : List (Addr × Obj)} {σ : St} {H : Hp} {s : Shared} {a : Addr} {y d : V} {u r : Value} {o : Option V} {A : Around} {E : Value -> Shared -> Prop}
end
section
variable {X : Cx} {o e f : Expr} {apos cpos : Pos} {td ty tx : TE}
end
section
variable {X : Cx} {pins : List (Addr × Obj)} {σ : St} {H : Hp} {s : Shared} {a : Addr} {kvs : List (Key × V)} {A : Around} {E : Value -> Shared -> Prop}
end
section
variable {X : Cx} {pins : List (Addr × Obj)} {σ : St} {H : Hp} {s : Shared} {a : Addr} {y : V} {u : Value} {A : Around} {E : Value -> Shared -> Prop}
end
end L2
set_option maxHeartbeats 4000000
namespace Mine
open PySem PySem.Builtin PySem.Builtin.Str
theorem jw {a b : Str} (h : a.cps.toList = b.cps.toList) : a = b := by
 cases a; cases b
 exact congrArg Str.mk (Array.toList_inj.mp h)
theorem fL (a : Str) : a.length = a.cps.toList.length := by simp [Str.length]
theorem cA (a b : Str) : (a ++ b).cps.toList = a.cps.toList ++ b.cps.toList := by
 show (a.cps ++ b.cps).toList = _
 simp
def inter (c : Nat) : List (List Nat) -> List Nat
 | [] => []
 | [x] => x
 | x :: y :: r => x ++ c :: inter c (y :: r)
theorem jQ (c : Nat) : ∀ ys : List Str, (Str.join ⟨#[c]⟩ ys).cps.toList = inter c (ys.map (·.cps.toList))
 | [] => by simp [Str.join, inter, Str.empty]
 | [x] => rfl
 | x :: y :: r => by
  have ih := jQ c (y :: r)
  show ((x ++ (⟨#[c]⟩ : Str)) ++ Str.join ⟨#[c]⟩ (y :: r)).cps.toList = _
  rw [cA, cA, ih]
  simp [inter]
theorem kW : ∀ ys : List Str, (Str.join ⟨#[]⟩ ys).cps.toList = (ys.map (·.cps.toList)).flatten
 | [] => by simp [Str.join, Str.empty]
 | [x] => by simp [Str.join]
 | x :: y :: r => by
  have ih := kW (y :: r)
  show ((x ++ (⟨#[]⟩ : Str)) ++ Str.join ⟨#[]⟩ (y :: r)).cps.toList = _
  rw [cA, cA, ih]
  simp
theorem wZ {c : Nat} : ∀ {x y R S : List Nat}, c ∉ x -> c ∉ y -> (R = [] \/ ∃ r, R = c :: r) -> (S = [] \/ ∃ r, S = c :: r) -> x ++ R = y ++ S -> x = y /\ R = S
 | [], [], R, S, _, _, _, _, h => ⟨rfl, h⟩
 | [], b :: y, R, S, _, hy, hR, _, h => by
  rcases hR with rfl | ⟨r, rfl⟩
  ·cases h
  ·have e : c = b := (List.cons.inj h).1
   exact absurd (by rw [<- e]; exact mem_cons_self) hy
 | a :: x, [], R, S, hx, _, _, hS, h => by
  rcases hS with rfl | ⟨r, rfl⟩
  ·cases h
  ·have e : a = c := (List.cons.inj h).1
   exact absurd (by rw [e]; exact mem_cons_self) hx
 | a :: x, b :: y, R, S, hx, hy, hR, hS, h => by
  obtain ⟨e, h'⟩ := List.cons.inj h
  obtain ⟨e2, e3⟩ := wZ (x := x) (y := y) (fun z => hx (mem_cons_of_mem _ z)) (fun z => hy (mem_cons_of_mem _ z)) hR hS h'
  exact ⟨by rw [e, e2], e3⟩
theorem mZ (c : Nat) (x : List Nat) (r : List (List Nat)) : ∃ R, inter c (x :: r) = x ++ R /\ (R = [] \/ ∃ q, R = c :: q) /\ (R = [] ↔ r = []) /\ (∀ q, R = c :: q -> q = inter c r) := by
 cases r with
 | nil => exact ⟨[], by simp [inter], .inl rfl, Z2, fun q h => nomatch h⟩
 | cons y r => exact ⟨c :: inter c (y :: r), rfl, .inr ⟨_, rfl⟩, Z2, fun q h => (List.cons.inj h).2.symm⟩
theorem uB {c : Nat} : ∀ {xs ys : List (List Nat)}, (∀ x ∈ xs, c ∉ x) -> (∀ y ∈ ys, c ∉ y) -> xs ≠ [] -> ys ≠ [] -> inter c xs = inter c ys -> xs = ys
 | [], _, _, _, h, _, _ => absurd rfl h
 | _, [], _, _, _, h, _ => absurd rfl h
 | x :: xs, y :: ys, hx, hy, _, _, h => by
  obtain ⟨R, e1, f1, g1, q1⟩ := mZ c x xs
  obtain ⟨S, e2, f2, g2, q2⟩ := mZ c y ys
  rw [e1, e2] at h
  obtain ⟨a, b⟩ := wZ (hx x mem_cons_self) (hy y mem_cons_self) f1 f2 h
  subst a; subst b
  cases xs with
  | nil =>
   have : ys = [] := g2.mp (g1.mpr rfl)
   rw [this]
  | cons x' xs' =>
   have hR : R ≠ [] := fun z => by cases g1.mp z
   have hys : ys ≠ [] := fun z => hR (g2.mpr z)
   rcases f1 with z | ⟨q, z⟩
   ·exact absurd z hR
   ·have i1 := q1 q z
    have i2 := q2 q z
    rw [uB (fun u hu => hx u (mem_cons_of_mem _ hu)) (fun u hu => hy u (mem_cons_of_mem _ hu)) Z2 hys (i1.symm.trans i2)]
theorem mJ : ∀ {xs ys : List Str}, xs.map (·.cps.toList) = ys.map (·.cps.toList) -> xs = ys
 | [], [], _ => rfl
 | [], _ :: _, h => by cases h
 | _ :: _, [], h => by cases h
 | x :: xs, y :: ys, h => by
  obtain ⟨a, b⟩ := List.cons.inj h
  rw [jw a, mJ b]
theorem Ce (x y : Str) : Txt.split x y ≠ [] := by
 unfold Txt.split
 split
 ·simp
 ·split
  ·simp
  ·intro h
   have := congrArg List.length h
   rw [length_partsBetween] at this
   simp at this
theorem yF (c : Nat) (ys : List Str) (h0 : ys ≠ []) (hf : ∀ y ∈ ys, c ∉ y.cps.toList) : Txt.split (Str.join ⟨#[c]⟩ ys) ⟨#[c]⟩ = ys := by
 refine mJ (uB (c := c) ?_ ?_ ?_ ?_ ?_)
 ·intro x hx
  obtain ⟨z, hz, rfl⟩ := mem_map.mp hx
  exact StrLaws.split_free _ c z hz
 ·intro x hx
  obtain ⟨z, hz, rfl⟩ := mem_map.mp hx
  exact hf z hz
 ·intro h; exact Ce _ _ (map_eq_nil_iff.mp h)
 ·intro h; exact h0 (map_eq_nil_iff.mp h)
 ·rw [<- jQ, <- jQ, StrLaws.join_split]
theorem rP (x : Str) (c i : Nat) : StrLaws.At x ⟨#[c]⟩ x.length i ↔ x.cps.toList[i]? = some c := by
 unfold StrLaws.At subAt
 have e1 : ((⟨#[c]⟩ : Str)).length = 1 := rfl
 rw [e1]
 constructor
 ·rintro ⟨h1, h2⟩
  have h3 : x.cps.extract i (i + 1) = #[c] := by simpa using h2
  have h4 := congrArg Array.toList h3
  rw [toList_extract, List.extract_eq_take_drop] at h4
  have h5 : x.cps.toList[i]? = ((x.cps.toList.drop i).take (i + 1 - i))[0]? := by
   rw [getElem?_take, if_pos Z1, List.getElem?_drop]; simp
  rw [h5, h4]; rfl
 ·intro h
  have hlt : i < x.cps.toList.length := (List.getElem?_eq_some_iff.mp h).1
  refine ⟨by rw [fL]; omega, ?_⟩
  have : x.cps.extract i (i + 1) = #[c] := by
   apply Array.toList_inj.mp
   rw [toList_extract, List.extract_eq_take_drop]
   have e : i + 1 - i = 1 := by omega
   rw [e, List.drop_eq_getElem_cons hlt]
   have : x.cps.toList[i] = c := (List.getElem?_eq_some_iff.mp h).2
   rw [this]; rfl
  rw [this]; simp
theorem Ag {x : Str} {c : Nat} (h : c ∉ x.cps.toList) : lastOccurrence x ⟨#[c]⟩ 0 x.length = none := by
 rcases StrLaws.last_spec x ⟨#[c]⟩ with ⟨e, _⟩ | ⟨i, _, hi, _⟩
 ·exact e
 ·exact absurd (mem_of_getElem? ((rP x c i).mp hi)) h
theorem Ao {a b : Str} {c : Nat} (h : c ∉ b.cps.toList) : lastOccurrence (a ++ (⟨#[c]⟩ : Str) ++ b) ⟨#[c]⟩ 0 (a ++ (⟨#[c]⟩ : Str) ++ b).length = some a.length := by
 have hc : (a ++ (⟨#[c]⟩ : Str) ++ b).cps.toList = a.cps.toList ++ c :: b.cps.toList := by rw [cA, cA]; simp
 have here : (a ++ (⟨#[c]⟩ : Str) ++ b).cps.toList[a.length]? = some c := by
  rw [hc, fL, getElem?_append_right (le_refl _)]; simp
 rcases StrLaws.last_spec (a ++ (⟨#[c]⟩ : Str) ++ b) ⟨#[c]⟩ with ⟨_, hn⟩ | ⟨i, e, hi, hn⟩
 ·exact absurd ((rP _ c _).mpr here) (hn _)
 ·rw [e]
  have hi' := (rP _ c i).mp hi
  have h1 : ¬ i < a.length := fun z => hn a.length z ((rP _ c _).mpr here)
  have h2 : ¬ a.length < i := fun z => by
   rw [hc, fL] at *
   rw [getElem?_append_right Z1] at hi'
   obtain ⟨k, hk⟩ : ∃ k, i - a.cps.toList.length = k + 1 := ⟨i - a.cps.toList.length - 1, Z1⟩
   rw [hk] at hi'
   exact h (mem_of_getElem? (by simpa using hi'))
  congr 1
  omega
theorem BZ (a b : Str) : strSub (a ++ b) 0 a.length = a := by
 apply jw
 unfold strSub
 show ((a ++ b).cps.extract 0 a.length).toList = _
 rw [toList_extract, List.extract_eq_take_drop, cA, fL]
 simp
theorem Es (a b : Str) : strSub (a ++ b) a.length (a ++ b).length = b := by
 apply jw
 unfold strSub
 show ((a ++ b).cps.extract a.length (a ++ b).length).toList = _
 rw [toList_extract, List.extract_eq_take_drop, cA, fL, fL, cA]
 simp
 exact List.take_of_length_le Z2
theorem join_snoc (s : Str) (b : Str) : ∀ xs : List Str, xs ≠ [] -> Str.join s (xs ++ [b]) = Str.join s xs ++ s ++ b
 | [], h => absurd rfl h
 | [x], _ => rfl
 | x :: y :: r, _ => by
  have ih := join_snoc s b (y :: r) Z2
  show x ++ s ++ Str.join s (y :: r ++ [b]) = (x ++ s ++ Str.join s (y :: r)) ++ s ++ b
  rw [ih]
  apply jw
  simp only [cA, append_assoc]
def oW : List Int := [48271, 1000003, 15485863, 32452843, 49979687, 67867967, 86028121, 104395301]
def nW : List Int := [179424673, 373587883, 573259391, 776531401, 982451653]
def Ho (c k many : Int) : Int := Builtin.bitAnd (c / 2 ^ (1 + 10 * k).toNat) 1023 % many
def xf (c k : Int) : Int := (c / 2 % 2305843009213693951 + 1) * (oW.getD (k % 8).toNat 0 * nW.getD (k / 8).toNat 0) % 2305843009213693951
def wg (c k : Int) : Int := xf c k * xf c k % 1000000000039
def Ei (c k many : Int) : Int := (wg c k + k + 1) * (wg c k / 10007 + 48271) % 67280421310721 / 31 % many
def pick (c k many : Int) : Int := if c % 2 = 1 /\ 0 < c / 2 ^ (400 : Int).toNat then Ho c k many else Ei c k many
theorem fc (c k : Int) {m : Int} (h : 0 < m) : 0 <= pick c k m := by
 unfold pick; split
 ·exact emod_nonneg _ Z1
 ·exact emod_nonneg _ Z1
theorem gb (c k : Int) {m : Int} (h : 0 < m) : pick c k m < m := by
 unfold pick; split
 ·exact emod_lt_of_pos _ h
 ·exact emod_lt_of_pos _ h
theorem Gn (c k : Int) : 0 <= xf c k := emod_nonneg _ Z0
theorem Fq (c k : Int) : xf c k < 2305843009213693951 := emod_lt_of_pos _ Z0
theorem GJ (c k : Int) : 0 <= wg c k := emod_nonneg _ Z0
theorem GZ (c k : Int) : wg c k < 1000000000039 := emod_lt_of_pos _ Z0
theorem Fx {k : Int} (h0 : 0 <= k) (h1 : k < 8) : oW[k.toNat]? = some (oW.getD k.toNat 0) /\ 0 < oW.getD k.toNat 0 /\ oW.getD k.toNat 0 < 1000000000 := by
 have : ∀ n : Fin 8, oW[n.val]? = some (oW.getD n.val 0) /\ 0 < oW.getD n.val 0 /\ oW.getD n.val 0 < 1000000000 := by decide
 exact this ⟨k.toNat, Z1⟩
theorem FT {k : Int} (h0 : 0 <= k) (h1 : k < 5) : nW[k.toNat]? = some (nW.getD k.toNat 0) /\ 0 < nW.getD k.toNat 0 /\ nW.getD k.toNat 0 < 1000000000 := by
 have : ∀ n : Fin 5, nW[n.val]? = some (nW.getD n.val 0) /\ 0 < nW.getD n.val 0 /\ nW.getD n.val 0 < 1000000000 := by decide
 exact this ⟨k.toNat, Z1⟩
theorem Bo {a b : Int} (ha : 0 < a) (ha' : a < 1000000000) (hb : 0 < b) (hb' : b < 1000000000) : 0 < a * b /\ a * b < 1000000000000000000 := by
 have h1 := Int.mul_pos ha hb
 have h2 : a * b <= 1000000000 * b := Int.mul_le_mul_of_nonneg_right Z1 Z1
 exact ⟨h1, Z1⟩
structure cQ (x : Str) : Prop where
 lo : 1 <= x.length
 hi : x.length <= 8
 ok : ∀ n ∈ x.cps.toList, 97 <= n /\ n <= 122
theorem cQ.nodot {x : Str} (h : cQ x) : 46 ∉ x.cps.toList := fun z => by have := h.ok 46 z; omega
def letters : Str := "abcdefghijklmnopqrstuvwxyz"
theorem yI {k : Int} (h0 : 0 <= k) (h1 : k < 26) : letters.cps.toList[k.toNat]? = some (97 + k.toNat) := by
 have : ∀ n : Fin 26, letters.cps.toList[n.val]? = some (97 + n.val) := by decide +kernel
 exact this ⟨k.toNat, Z1⟩
theorem o7 : (("." : Str)) = ⟨#[46]⟩ := by decide +kernel
theorem Dc : (("" : Str)) = ⟨#[]⟩ := by decide +kernel
def dotted (ys : List Str) : Str := Txt.join ("." : Str) ys
theorem cj (ys : List Str) : dotted ys = Str.join ⟨#[46]⟩ ys := by
 unfold dotted
 rw [o7]
 exact StrLaws.glued_eq_join _ ys
theorem dm (ys : List Str) (h0 : ys ≠ []) (hn : ∀ y ∈ ys, cQ y) : Txt.split (dotted ys) ("." : Str) = ys := by
 rw [cj, o7]
 exact yF 46 ys h0 fun y hy => (hn y hy).nodot
theorem By (y : Str) (h : cQ y) : Txt.rpartition y ("." : Str) = (Str.empty, Str.empty, y) := by
 unfold Txt.rpartition
 rw [o7, Ag h.nodot]
theorem qM (xs : List Str) (b : Str) (h0 : xs ≠ []) (h : cQ b) : Txt.rpartition (dotted (xs ++ [b])) ("." : Str) = (dotted xs, (".": Str), b) := by
 unfold Txt.rpartition
 rw [cj, cj, o7, join_snoc _ _ _ h0, Ao h.nodot]
 show (strSub (Str.join ⟨#[46]⟩ xs ++ (⟨#[46]⟩ : Str) ++ b) 0 (Str.join ⟨#[46]⟩ xs).length, _, strSub _ _ _) = _
 have e1 : strSub (Str.join ⟨#[46]⟩ xs ++ (⟨#[46]⟩ : Str) ++ b) 0 (Str.join ⟨#[46]⟩ xs).length = Str.join ⟨#[46]⟩ xs := by
  have : Str.join ⟨#[46]⟩ xs ++ (⟨#[46]⟩ : Str) ++ b = Str.join ⟨#[46]⟩ xs ++ ((⟨#[46]⟩ : Str) ++ b) := jw (by simp only [cA, append_assoc])
  rw [this]; exact BZ _ _
 have e2 : strSub (Str.join ⟨#[46]⟩ xs ++ (⟨#[46]⟩ : Str) ++ b) ((Str.join ⟨#[46]⟩ xs).length + (⟨#[46]⟩ : Str).length) (Str.join ⟨#[46]⟩ xs ++ (⟨#[46]⟩ : Str) ++ b).length = b := by
  have l1 : (Str.join ⟨#[46]⟩ xs).length + (⟨#[46]⟩ : Str).length = (Str.join ⟨#[46]⟩ xs ++ (⟨#[46]⟩ : Str)).length := by rw [fL, fL, fL, cA, length_append]
  rw [l1]; exact Es _ _
 rw [e1, e2]
theorem uR {ys : List Str} {n : Nat} (h : ∀ y ∈ ys, y.length <= n) : (ys.map (·.length)).sum <= ys.length * n := by
 induction ys with
 | nil => simp
 | cons y r ih =>
  have h1 := h y mem_cons_self
  have h2 := ih fun z hz => h z (mem_cons_of_mem _ hz)
  simp only [map_cons, List.sum_cons, length_cons, Nat.add_mul, Nat.one_mul]
  omega
theorem yf (ys : List Str) : (dotted ys).length <= (ys.map (·.length)).sum + ys.length := by
 rw [cj]
 have := StrLaws.join_length_le ⟨#[46]⟩ ys
 have e : (⟨#[46]⟩ : Str).length = 1 := rfl
 rw [e] at this
 omega
end Mine
namespace L2
open PySem PySem.Spec PyProof.Rows
section
variable {X : Cx}
def M9 (K : Frag) : List V -> Hp -> VK -> Prop := fun xs H Q => ∃ x t n b, xs = [x, .ty n] /\ mC K H x t /\ kitOne K t (.type n) = some b /\ Q (.bl b) H
theorem Bl : kE X (.builtin "isinstance") (M9 X.K) := by
 intro pins s σ H xs us Q I r h
 obtain ⟨x, t, n, b, rfl, ty, e, q⟩ := h
 obtain ⟨u, u2, rfl, rx, ry⟩ := vals2 r
 cases (show u2 = Value.type n from ry)
 exact uh I rx ty e fun tk => ⟨.bl b, H, I.tok tk, rfl, q⟩
theorem Eh {K : Frag} {n : String} : kitOne K (.type n) (.type n) = some true := by
 unfold kitOne
 rw [if_pos Z2]
theorem zb {ys : List Str} : ∀ {us : List Value}, Vals (ys.map V.str) us -> StrsAre us ys := by
 induction ys with
 | nil => intro us r; rw [map_nil] at r; cases r; exact .nil
 | cons y ys ih =>
  intro us r
  rw [map_cons] at r
  cases r with
  | cons r1 r2 =>
   obtain ⟨t, e⟩ := r1
   subst e
   exact .cons y t (ih r2)
theorem uv : ∀ (l : List (Str × Tok)), Vals ((l.map (·.1)).map V.str) (strValues l)
 | [] => .nil
 | (y, t) :: l => .cons ⟨t, rfl⟩ (uv l)
def rJoin (K : Frag) : V -> List V -> Hp -> VK -> Prop := fun x vs H Q => ∃ sep p ys, x = .str sep /\ vs = [.ref p] /\ (SqL K H p (ys.map V.str) \/ SqT K H p (ys.map V.str)) /\
 (ys.map (·.length)).sum + ys.length * sep.length <= 16777216 /\ Q (.str (Txt.join sep ys)) H
theorem u9 : MtR X "str.join" (rJoin X.K) := by
 intro pins s σ H x vs v us Q I rx rv h
 obtain ⟨sep, p, ys, rfl, rfl, hq, hz, q⟩ := h
 obtain ⟨t, rfl⟩ := rx
 obtain ⟨u, rfl, ru⟩ := vals1 rv
 cases (show u = Value.ref p from ru)
 rcases hq with hq | hq
 ·obtain ⟨its, r, pl, _⟩ := I.list hq
  exact join_list pl.isList (by simpa using zb r) hz fun t' k => ⟨.str _, H, I.tok k, ⟨t', rfl⟩, q⟩
 ·obtain ⟨its, r, pl, _⟩ := I.tuple hq
  exact join_tuple pl (by simpa using zb r) hz fun t' k => ⟨.str _, H, I.tok k, ⟨t', rfl⟩, q⟩
def Jq : V -> List V -> Hp -> VK -> Prop := fun x vs H Q => ∃ z sep, x = .str z /\ vs = [.str sep] /\ (sep.length == 0) = false /\ z.length + 2 <= sizeLine /\
 ∀ p, H p = none -> Q (.ref p) (upd H p (.lst ((Txt.split z sep).map V.str)))
theorem Am (z sep : Str) (h : z.length + 2 <= sizeLine) : (Txt.split z sep).length <= sizeLine := by
 unfold Txt.split
 split
 ·simp; omega
 ·split
  ·simp; omega
  ·have e1 := StrLaws.occ_length_le z sep 0 z.length (z.length + 1)
   rw [length_partsBetween]; omega
theorem oR : MtR X "str.split" Jq := by
 intro pins s σ H x vs v us Q I rx rv h
 obtain ⟨z, sep, rfl, rfl, hy, hz, q⟩ := h
 obtain ⟨t, rfl⟩ := rx
 obtain ⟨u, rfl, ru⟩ := vals1 rv
 obtain ⟨t2, rfl⟩ := ru
 have fin : ∀ (l : List (Str × Tok)) (k : Nat), l.map (·.1) = Txt.split z sep ->
   EP X pins σ Q (.ref s.heap.objs.size) { s with heap := s.heap.push { cls := .type "list", data := .seq (strValues l).toArray }, toks := k } := fun l k e => by
  have hv := uv l
  rw [e] at hv
  exact ⟨.ref s.heap.objs.size, _, I.lnew hv (by rw [length_map]; exact Am z sep hz), rfl, q _ I.fresh⟩
 have few : (Builtin.Str.partsBetween z (Builtin.Str.occurrences z sep 0 z.length (z.length + 1)) sep.length).length <= sizeLine := by
  have e1 := StrLaws.occ_length_le z sep 0 z.length (z.length + 1)
  rw [length_partsBetween]; omega
 cases h1 : (decide (z.length < sep.length) || decide (Builtin.Str.strKind z < Builtin.Str.strKind sep))
 ·cases hf : (Builtin.Str.occurrences z sep 0 z.length (z.length + 1)).isEmpty
  ·refine call_meets F.slot_str_split (typeIs_str _ _ _) F.entry_str_split (F.args_str_split_2 _ _) (meets_str_split_sep z sep t t2 h1 hy hf Z1 few) ?_
   rw [strsFrom_eq]
   exact fin (numbered s.toks _) _ ((numbered_texts _ _).trans (by unfold Txt.split; rw [if_neg (by rw [h1]; exact Bool.false_ne_true), if_neg (by rw [hf]; exact Bool.false_ne_true)]))
  ·refine call_meets F.slot_str_split (typeIs_str _ _ _) F.entry_str_split (F.args_str_split_2 _ _) (meets_str_split_not_found z sep t t2 h1 hy hf) ?_
   exact fin [(z, t)] s.toks (by unfold Txt.split; rw [if_neg (by rw [h1]; exact Bool.false_ne_true), if_pos hf] <;> rfl)
 ·refine call_meets F.slot_str_split (typeIs_str _ _ _) F.entry_str_split (F.args_str_split_2 _ _) (meets_str_split_cannot_occur z sep t t2 h1) ?_
  exact fin [(z, t)] s.toks (by unfold Txt.split; rw [if_pos h1] <;> rfl)
def Jc : V -> List V -> Hp -> VK -> Prop := fun x vs H Q => ∃ z sep, x = .str z /\ vs = [.str sep] /\ (sep.length == 0) = false /\ z.length <= sizeLine /\
 ∀ p, H p = none -> Q (.ref p) (upd H p (.tup [.str (Txt.rpartition z sep).1, .str (Txt.rpartition z sep).2.1, .str (Txt.rpartition z sep).2.2]))
theorem Inv.tnew {pins : List (Addr × Obj)} {σ : St} {H : Hp} {s : Shared} {ys : List V} {its : List Value} {t' : Nat} (I : Inv X pins σ H s) (hv : Vals ys its) (hz : ys.length <= sizeLine) :
  Inv X pins σ (upd H s.heap.objs.size (.tup ys)) { s with heap := s.heap.push { cls := .type "tuple", data := .seq its.toArray }, toks := t' } :=
 I.laid (fun b o e => Heap.get?_push_of_some _ e) (le_refl _) (show bF X.prog X.w _ _ _ (.tup ys) from ⟨hz, its, hv, IsTup.new _ _⟩)
theorem sH (a b c : Str) (t u v : Tok) : Vals [.str a, .str b, .str c] [.str a t, .str b u, .str c v] := .cons ⟨t, rfl⟩ (.cons ⟨u, rfl⟩ (.cons ⟨v, rfl⟩ .nil))
theorem xj : MtR X "str.rpartition" Jc := by
 intro pins s σ H x vs v us Q I rx rv h
 obtain ⟨z, sep, rfl, rfl, hy, hz, q⟩ := h
 obtain ⟨t, rfl⟩ := rx
 obtain ⟨u, rfl, ru⟩ := vals1 rv
 obtain ⟨t2, rfl⟩ := ru
 refine call_meets F.slot_str_rpartition (typeIs_str _ _ _) F.entry_str_rpartition (F.args_str_rpartition_2 _ _) (meets_str_rpartition z sep t t2 hy hz) ?_
 have q' := q
 unfold Txt.rpartition at q'
 revert q'
 cases Builtin.Str.lastOccurrence z sep 0 z.length with
 | none => intro q'; exact ⟨.ref s.heap.objs.size, _, I.tnew (sH _ _ _ _ _ _) (by show 3 <= sizeLine; decide), rfl, q' _ I.fresh⟩
 | some i => intro q'; exact ⟨.ref s.heap.objs.size, _, I.tnew (sH _ _ _ _ _ _) (by show 3 <= sizeLine; decide), rfl, q' _ I.fresh⟩
end
theorem vX {env : Env} : ∀ (ns : List (Str × NameKind)) (acc : List (Str × Addr)), (∀ y ∈ ns, y.2 = .free -> ∃ c, env.cells.lookup y.1 = some c) -> (∀ p ∈ acc, env.cells.lookup p.1 = some p.2) ->
  ∃ cl : List (Str × Addr), (forIn ns acc fun (y : Str × NameKind) (cs : List (Str × Addr)) => (match y with
   | (name, kind) => if (kind == NameKind.free) = true then (do let c <- cellOf env name; pure (ForInStep.yield ((name, c) :: cs))) else pure (ForInStep.yield cs) : Sem (ForInStep (List (Str × Addr))))) = pure cl /\
   (∀ p ∈ cl, env.cells.lookup p.1 = some p.2) /\ (∀ p ∈ acc, p ∈ cl) /\ ∀ y ∈ ns, y.2 = .free -> ∃ c, (y.1, c) ∈ cl
 | [], acc, _, ha => ⟨acc, rfl, ha, fun _ h => h, fun _ h => nomatch h⟩
 | (n, k) :: r, acc, hn, ha => by
  have hr : ∀ y ∈ r, y.2 = .free -> ∃ c, env.cells.lookup y.1 = some c := fun y hy => hn y (mem_cons_of_mem _ hy)
  by_cases hk : k = NameKind.free
  ·subst hk
   obtain ⟨c, hc⟩ := hn (n, .free) mem_cons_self rfl
   have hc' : env.cells.lookup n = some c := hc
   obtain ⟨cl, e, h1, h2, h3⟩ := vX r ((n, c) :: acc) hr (fun p hp => by
    rcases mem_cons.mp hp with rfl | hp
    ·exact hc'
    ·exact ha p hp)
   refine ⟨cl, ?_, h1, fun p hp => h2 p (mem_cons_of_mem _ hp), fun y hy hf => ?_⟩
   ·rw [List.forIn_cons]
    have e1 : cellOf env n = pure c := by unfold cellOf; rw [hc']
    simp only [beq_self_eq_true, if_true, e1, pure_bind]
    exact e
   ·rcases mem_cons.mp hy with rfl | hy
    ·exact ⟨c, h2 _ mem_cons_self⟩
    ·exact h3 y hy hf
  ·obtain ⟨cl, e, h1, h2, h3⟩ := vX r acc hr ha
   refine ⟨cl, ?_, h1, h2, fun y hy hf => ?_⟩
   ·rw [List.forIn_cons]
    have hb : (k == NameKind.free) = false := by simpa using hk
    simp only [hb, Bool.false_eq_true, if_false, pure_bind]
    exact e
   ·rcases mem_cons.mp hy with rfl | hy
    ·exact absurd hf hk
    ·exact h3 y hy hf
theorem uq {α : Type} : ∀ {l : List (Str × α)} {x : Str} {c : α}, (x, c) ∈ l -> ∃ d, l.lookup x = some d
 | [], _, _, h => nomatch h
 | (y, d) :: r, x, c, h => by
  by_cases e : x = y
  ·subst e; exact ⟨d, by simp [lookup_cons]⟩
  ·have hb : (x == y) = false := by simpa using e
   rcases mem_cons.mp h with z | z
   ·cases z; exact absurd rfl e
   ·obtain ⟨d', h'⟩ := uq z
    exact ⟨d', by simp only [lookup_cons, hb]; exact h'⟩
theorem Ff {scope : Scope} {env : Env} (h : ∀ y ∈ scope.names, y.2 = .free -> ∃ c, env.cells.lookup y.1 = some c) :
  ∃ cl : List (Str × Addr), closureFor scope env = pure cl /\ (∀ x c, cl.lookup x = some c -> env.cells.lookup x = some c) /\ ∀ x, (x, NameKind.free) ∈ scope.names -> ∃ c, cl.lookup x = some c := by
 obtain ⟨cl, e, h1, _, h3⟩ := vX (env := env) scope.names [] h (fun p hp => nomatch hp)
 refine ⟨cl, ?_, fun x c q => h1 (x, c) (PySem.mem_of_lookup q), fun x hx => ?_⟩
 ·simp only [closureFor]
  simp only [bind_pure]
  exact e
 ·obtain ⟨c, hc⟩ := h3 (x, .free) hx rfl
  exact uq hc
def nA (osc sc : Scope) (oN : List Str) : List (Option Nat) -> List Str -> Bool
 | [], [] => true
 | none :: r, _ :: n => nA osc sc oN r n
 | some k :: r, x :: n => (oN[k]? == some x) && (sc.names.lookup x == some .free) && nA osc sc oN r n
 | _, _ => false
theorem qL {osc sc : Scope} {oN : List Str} : ∀ {ix : List (Option Nat)} {N : List Str}, nA osc sc oN ix N = true -> ix.length = N.length
 | [], [], _ => rfl
 | none :: _, _ :: _, h => congrArg (· + 1) (qL (by simpa [nA] using h))
 | some _ :: _, _ :: _, h => congrArg (· + 1) (qL (by simp [nA] at h; exact h.2))
 | [], _ :: _, h => by simp [nA] at h
 | none :: _, [], h => by simp [nA] at h
 | some _ :: _, [], h => by simp [nA] at h
theorem vG {osc sc : Scope} {oN : List Str} : ∀ {ix : List (Option Nat)} {N : List Str} (i k : Nat), nA osc sc oN ix N = true -> ix[i]? = some (some k) -> ∃ x, N[i]? = some x /\ oN[k]? = some x /\ sc.names.lookup x = some .free
 | [], _, _, _, _, e => by simp at e
 | none :: _, [], _, _, h, _ => by simp [nA] at h
 | some _ :: _, [], _, _, h, _ => by simp [nA] at h
 | none :: r, x :: n, 0, _, _, e => by simp at e
 | none :: r, x :: n, i + 1, k, h, e => by
  obtain ⟨y, h1, h2⟩ := vG (ix := r) (N := n) i k (by simpa [nA] using h) (by simpa using e)
  exact ⟨y, by simpa using h1, h2⟩
 | some j :: r, x :: n, 0, k, h, e => by
  simp [nA] at h
  simp at e
  subst e
  exact ⟨x, Z2, h.1.1, h.1.2⟩
 | some j :: r, x :: n, i + 1, k, h, e => by
  simp [nA] at h
  obtain ⟨y, h1, h2⟩ := vG (ix := r) (N := n) i k h.2 (by simpa using e)
  exact ⟨y, by simpa using h1, h2⟩
def lB (osc : Scope) (oN N : List Str) (ix : List (Option Nat)) (sc : Scope) : Bool :=
 (sc.kind == .function) && sc.names.all (fun y => (y.2 != .cell) && ((y.2 != .local) || (sc.names.lookup y.1 == some .local)) && ((y.2 != .free) || ((osc.names.lookup y.1 == some .cell) || (osc.names.lookup y.1 == some .free)))) && nA osc sc oN ix N
theorem sO {env : Env} : ∀ {names : List (Str × NameKind)} {x : Str}, names.lookup x = some .free ->
  (names.map fun (n, k) => if (k == NameKind.free && env.scope.kind == .function && env.kindOf n == some .cell) then (n, NameKind.cell) else (n, k)).lookup x = some .cell \/
  (names.map fun (n, k) => if (k == NameKind.free && env.scope.kind == .function && env.kindOf n == some .cell) then (n, NameKind.cell) else (n, k)).lookup x = some .free
 | [], _, h => by simp at h
 | (n, k) :: r, x, h => by
  have ih := @sO env r x
  simp only [map_cons]
  cases hx : x == n with
  | true =>
   simp only [lookup_cons, hx] at h
   cases h
   by_cases hc : (NameKind.free == NameKind.free && env.scope.kind == .function && env.kindOf n == some .cell) = true
   ·left; rw [if_pos hc]; simp only [lookup_cons, hx]
   ·right; rw [if_neg hc]; simp only [lookup_cons, hx]
  | false =>
   simp only [lookup_cons, hx] at h
   by_cases hc : (k == NameKind.free && env.scope.kind == .function && env.kindOf n == some .cell) = true
   ·rw [if_pos hc]; simp only [lookup_cons, hx]; exact ih h
   ·rw [if_neg hc]; simp only [lookup_cons, hx]; exact ih h
theorem rO {env : Env} : ∀ {names : List (Str × NameKind)} {x : Str}, (∀ y ∈ names, y.2 ≠ NameKind.cell) ->
  ((names.map fun (n, k) => if (k == NameKind.free && env.scope.kind == .function && env.kindOf n == some .cell) then (n, NameKind.cell) else (n, k)).lookup x = some .cell \/
  (names.map fun (n, k) => if (k == NameKind.free && env.scope.kind == .function && env.kindOf n == some .cell) then (n, NameKind.cell) else (n, k)).lookup x = some .free) -> (x, NameKind.free) ∈ names
 | [], _, _, h => by simp at h
 | (n, k) :: r, x, hn, h => by
  have ih := @rO env r x fun y hy => hn y (mem_cons_of_mem _ hy)
  simp only [map_cons] at h
  by_cases hc : (k == NameKind.free && env.scope.kind == .function && env.kindOf n == some .cell) = true
  ·rw [if_pos hc] at h
   cases hx : x == n with
   | true =>
    have e : x = n := by simpa using hx
    have e2 : k = NameKind.free := by simp at hc; exact hc.1.1
    subst e; subst e2
    exact mem_cons_self
   | false =>
    simp only [lookup_cons, hx] at h
    exact mem_cons_of_mem _ (ih h)
  ·rw [if_neg hc] at h
   cases hx : x == n with
   | true =>
    have e : x = n := by simpa using hx
    subst e
    simp only [lookup_cons, hx] at h
    rcases h with h | h
    ·cases h; exact absurd rfl (hn (x, .cell) mem_cons_self)
    ·cases h; exact mem_cons_self
   | false =>
    simp only [lookup_cons, hx] at h
    exact mem_cons_of_mem _ (ih h)
def blk (X : Cx) (N : List Str) (sc : Scope) (cl : List (Str × Addr)) (C : Addr) (fp : List Addr) (s : Shared) (H : Hp) : Cx :=
 { X with N := N, s₀ := s, H₀ := H, env := compEnvC sc cl C X.env, outer := X.stack, ex := fp, fn := fun _ => false, pn := [], xe := fun _ _ => False }
def lift (ix : List (Option Nat)) (σ : St) : St := ix.map fun o => o.bind fun k => (σ[k]?).bind id
def PF (X : Cx) (ifs : List Expr) (t : TT) : Prop :=
 ∀ (pins : List (Addr × Obj)) (s : Shared) (σ : St) (H : Hp) (Q : Bool -> Hp -> Prop), Inv X pins σ H s -> t σ H Q ->
  wpAny (model X.prog X.w) X.A (forIn ifs true fun c r => if r = true then do let ok <- isTrue c X.env (eval c X.env); pure (ForInStep.yield ok) else pure (ForInStep.yield r)) (TP X pins σ Q) X.xe s
def wO : TT := fun _ H Q => Q true H
theorem eU {X : Cx} : PF X [] wO := fun pins s σ H Q I h => wpAny_tests_nil ⟨H, I, h⟩
theorem fB {X : Cx} {c : Expr} {t : TT} (hc : PT X c t) : PF X [c] t := fun pins s σ H Q I h => wpAny_tests_one (hc pins s σ H Q I h)
def oG (g : TG) (tf : TT) (te : TE) (J : It) (σ0 : St) (H1 : Hp) (Fin : List V -> Hp -> Prop) : Prop :=
 ∃ W : Nat -> Nat -> St -> List V -> Hp -> Prop, (∃ m, W 0 m σ0 [] H1) /\ ∀ i m τ ys H, W i m τ ys H ->
  (J.stop i H /\ Fin ys H) \/ (J.go i H /\ ∀ x H', J.yld i H x H' -> g x τ H' fun τ2 H2 => tf τ2 H2 fun b H3 =>
   if b = true then te τ2 H3 fun y H4 => ys.length < sizeLine /\ ∃ m', m' < m /\ W (i + 1) m' τ2 (ys ++ [y]) H4 else ∃ m', m' < m /\ W (i + 1) m' τ2 ys H3)
def CN (ix : List (Option Nat)) (wi : TI) (g : TG) (tf : TT) (te : TE) : TE := fun σ H Q => wi σ H fun J H1 => oG g tf te J (lift ix σ) H1 fun ys H' => ∀ p, H' p = none -> Q (.ref p) (upd H' p (.lst ys))
theorem KJ {P : Program} {w : World} {A : Around} {R : Result -> Shared -> Prop} {s : Shared} {el tg src : Expr} {fs : List Expr} {sc : Scope} {ps : Pos} {iv ac : Value} {en : Env} (J : Nat -> Shared -> Prop)
  (turn : ∀ n s, J n s -> wpAny (model P w) A (pyNext iv) (fun r s1 => match r with
   | none => R (.ok .next) s1
   | some v => wpAny (model P w) A (letOwnedTupleGo tg iv v) (fun _ s2 => wpAny (model P w) A (assign tg en v) (fun _ s3 =>
     wpAny (model P w) A (forIn fs true fun c r => if r = true then do let ok <- isTrue c en (eval c en); pure (ForInStep.yield ok) else pure (ForInStep.yield r)) (fun ok s4 =>
      if ok = true then wpAny (model P w) A (eval el en) (fun x s5 => wpAny (model P w) A (call (.builtin "list.append") [ac, x]) (fun _ s6 => ∃ m, m < n /\ J m s6) (fun _ _ => False) s5) (fun _ _ => False) s4
      else ∃ m, m < n /\ J m s4) (fun _ _ => False) s3) (fun _ _ => False) s2) (fun _ _ => False) s1) (fun _ _ => False) s)
  (n : Nat) (h : J n s) : codeAny (model P w) A (.compLoop (.ListComp el [⟨tg, src, fs, 0⟩] sc ps) 0 iv ac en) R s := by
 have ab : ∀ {α : Type} {t : Sem α} {Q Q' : α -> Shared -> Prop} {E : Value -> Shared -> Prop} {s : Shared}, wpAny (model P w) A t Q (fun _ _ => False) s -> (∀ a s, Q a s -> Q' a s) -> wpAny (model P w) A t Q' E s :=
  fun h hq => wpAny_mono h hq fun _ _ f => f.elim
 refine codeAny_loop rfl J (fun n s hJ => ?_) n h
 show wpAny _ A ((compTurn (.ListComp el [⟨tg, src, fs, 0⟩] sc ps) 0 iv ac en).onRaise (fun x => do noteFrame x en; theTreesLotGoes x)) _ _ s
 refine wpAny_noted ?_
 rw [compTurn_list]
 refine wpAny_bind (wpAny_standAt (wpAny_bind (ab (turn n s hJ) fun r s1 h1 => ?_)))
 cases r with
 | none => exact wpAny_pure h1
 | some v =>
  refine wpAny_bind (ab h1 fun _ s2 h2 => wpAny_bind (ab h2 fun _ s3 h3 => wpAny_bind (ab h3 fun ok s4 h4 => ?_)))
  cases ok with
  | false => exact wpAny_pure ⟨rfl, h4⟩
  | true => exact wpAny_bind (wpAny_bind (ab h4 fun x s5 h5 => wpAny_bind (ab h5 fun _ s6 h6 => wpAny_pure (wpAny_pure ⟨rfl, h6⟩))))
section
variable {X : Cx} {pins : List (Addr × Obj)} {σ : St} {H2 : Hp} {s2 : Shared} {N : List Str} {ix : List (Option Nat)} {sc : Scope} {cl : List (Str × Addr)}
theorem Ju (I : Inv X pins σ H2 s2) (hb : lB X.env.scope X.N N ix sc = true) (c1 : ∀ x c, cl.lookup x = some c -> X.env.cells.lookup x = some c) (c2 : ∀ x, (x, NameKind.free) ∈ sc.names -> ∃ c, cl.lookup x = some c)
  {fp : List Addr} (hf : ∀ b ∈ fp, qT X pins H2 b) (hfo : ∀ b ∈ fp, ∃ o, s2.heap.get? b = some o) {C : Addr} (hC : s2.heap.objs.size <= C) : (blk X N sc cl C fp s2 H2).Ok := by
 unfold lB at hb
 simp only [and_eq_true] at hb
 obtain ⟨⟨hk, hn⟩, hi⟩ := hb
 have nocell : ∀ y ∈ sc.names, y.2 ≠ NameKind.cell := fun y hy => by
  have := all_eq_true.mp hn y hy
  simp only [and_eq_true] at this
  simpa using this.1.1
 refine ⟨I.ok.mod, ?_, I.ok.glob, I.ok.blt, hC, fun x y c h1 h2 => I.ok.inj x y c (c1 x c h1) (c1 y c h2), fun x hx => ?_, fun x c hx => ?_, I.ok.hd, I.ok.frames, .inl rfl, fun b hb => ⟨?_, fun x c h => ?_⟩, I.bs, le_trans I.ok.bsz I.sz, fun b o e hb => ?_, fun b hb hs => ?_, I.stack, I.stkFree⟩
 ·show (relabel sc X.env).kind = .function
  exact eq_of_beq hk
 ·exact c2 x (rO nocell hx)
 ·cases hx
 ·show b ≠ C
  obtain ⟨o, e⟩ := hfo b hb
  exact ne_of_lt (lt_of_lt_of_le (Heap.lt_size e) hC)
 ·obtain ⟨_, _, _, _, h5, _⟩ := hf b hb
  exact h5 x c (c1 x c h)
 ·obtain ⟨_, _, _, h4, _, _⟩ := hf b hb
  rcases h4 with h4 | h4
  ·exact I.ok.noex b o e h4
  ·exact absurd (lt_of_lt_of_le (Heap.lt_size (I.ok.bs b o e).1) h4) (lt_irrefl _)
 ·obtain ⟨_, h2, h3, _⟩ := hf b hb
  rcases mem_cons.mp (I.stkSub b hs) with z | z
  ·exact h2 z
  ·exact h3 z
theorem Un.grow {fs ex : List Addr} {H H' : Hp} {h h' : Heap} {D : Addr} {o : HO} (u : Un fs ex H H' h h') (hD : h.objs.size <= D) (hn : H D = none) : Un fs ex H (upd H' D o) h h' := by
 have lt : ∀ {b : Addr} {ob : Obj}, h.get? b = some ob -> b ≠ D := fun e z => by
  subst z; exact absurd (lt_of_lt_of_le (Heap.lt_size e) hD) (lt_irrefl _)
 refine ⟨u.keep, u.slot, fun b ob e n hx => by rw [aF (lt e)]; exact u.free b ob e n hx, u.there, fun b xs e => ?_, fun b ob v e => ?_, fun b ps e => ?_⟩
 ·rw [aF (aD e hn)]; exact u.tups b xs e
 ·rw [aF (aD e hn)]; exact u.frzs b ob v e
 ·obtain ⟨m, q⟩ := u.tbls b ps e
  exact ⟨m, by rw [aF (aD e hn)]; exact q⟩
theorem HOk.grow {P : Program} {w : World} {H : Hp} {h : Heap} {D : Addr} {o : HO} (x : HOk P w H h) (hn : H D = none) (new : bF P w (upd H D o) h D o) : HOk P w (upd H D o) h := fun b u e => by
 by_cases hb : b = D
 ·subst hb; rw [ak] at e; cases e; exact new
 ·rw [aF hb] at e
  exact (x b u e).stay (fun _ _ _ q => q) (fun c q => by rw [aF (aD q hn)]; exact q) fun c xs q => by rw [aF (aD q hn)]; exact q
theorem Fg {ix : List (Option Nat)} {σ : St} {i : Nat} {v : V} (h : (lift ix σ)[i]? = some (some v)) : ∃ k, ix[i]? = some (some k) /\ σ[k]? = some (some v) := by
 unfold lift at h
 rw [getElem?_map] at h
 cases e : ix[i]? with
 | none => rw [e] at h; cases h
 | some o =>
  rw [e] at h
  cases o with
  | none => simp at h
  | some k =>
   refine ⟨k, rfl, ?_⟩
   simp only [map_some, bind_some, Option.some.injEq] at h
   cases q : σ[k]? with
   | none => rw [q] at h; cases h
   | some z => rw [q] at h; have h' : z = some v := h; rw [h']
theorem tX {el tg src : Expr} {ifs : List Expr} {pos : Pos} {g : TG} {tf : TT} {te : TE} {J : It} {fp : List Addr} {it : Addr} {tn : Nat -> Heap -> Prop} {E : Value -> Shared -> Prop} {Fin : List V -> Hp -> Prop} {RR : Value -> Addr -> Result -> Shared -> Prop}
  (I : Inv X pins σ H2 s2) (hc : X.calm = true) (hb : lB X.env.scope X.N N ix sc = true) (c1 : ∀ x c, cl.lookup x = some c -> X.env.cells.lookup x = some c) (c2 : ∀ x, (x, NameKind.free) ∈ sc.names -> ∃ c, cl.lookup x = some c)
  (T : Turn X.prog X.w X.K tg J fp it tn) (st : tn 0 s2.heap) (hf : ∀ b ∈ fp, qT X pins H2 b)
  (hg : ∀ C fp, PG (blk X N sc cl C fp s2 H2) tg g) (hfs : ∀ C fp, PF (blk X N sc cl C fp s2 H2) ifs tf) (he : ∀ C fp, PE (blk X N sc cl C fp s2 H2) el te)
  (hW : oG g tf te J (lift ix σ) H2 Fin)
  (hRR : ∀ D C s' ys H', H' D = none -> (∃ m, s'.heap.Ns C m) -> Inv X pins σ (upd H' D (.lst ys)) s' -> qT X pins (upd H' D (.lst ys)) C -> Fin ys H' -> RR (.ref D) C (.ok .next) s') :
  wpAny (model X.prog X.w) X.A (newList []) (fun acc s3 => wpAny (model X.prog X.w) X.A (newFunctionEnv sc X.env.globals cl [] X.env.qual none .none (some X.env)) (fun cenv s4 =>
   codeAny (model X.prog X.w) X.A (.compStart (.ListComp el [⟨tg, src, ifs, 0⟩] sc pos) 0 (.ref it) acc { cenv with scope := relabel sc X.env }) (RR acc cenv.locals) s4) E s3) E s2 := by
 obtain ⟨W, ⟨m0, w0⟩, turn⟩ := hW
 have hb' := hb
 unfold lB at hb'
 simp only [and_eq_true] at hb'
 obtain ⟨⟨hk, hn⟩, hi⟩ := hb'
 have nocell : ∀ y ∈ sc.names, y.2 ≠ NameKind.cell := fun y hy => by
  have := all_eq_true.mp hn y hy
  simp only [and_eq_true] at this
  simpa using this.1.1
 have hkind : sc.kind = .function := eq_of_beq hk
 refine wpAny_newObj_type (wpAny_newFunctionEnv nocell (by intro y hy; simp at hy) (fun h1 hns hsb => ?_) hkind)
 dsimp only at hns hsb ⊢
 generalize hP : s2.heap.push { cls := .type "list", dict := none, data := .seq ([] : List Value).toArray } = P2 at hns hsb ⊢
 have hC : P2.objs.size = s2.heap.objs.size + 1 := by rw [<- hP, Heap.size_push]
 have hDC : s2.heap.objs.size ≠ P2.objs.size := by rw [hC]; exact ne_of_lt (Nat.lt_succ_self _)
 have hCle : s2.heap.objs.size <= P2.objs.size := by rw [hC]; omega
 have fpo : ∀ b ∈ fp, ∃ o, s2.heap.get? b = some o := fun b hb => let ⟨o, e, _⟩ := T.obj _ _ st b hb; ⟨o, e⟩
 have old : ∀ b o, s2.heap.get? b = some o -> h1.get? b = some o := fun b o e => by
  refine (hsb.2 b ?_).trans (Heap.get?_push_of_some _ (hP ▸ Heap.get?_push_of_some _ e))
  rw [hC]; exact ne_of_lt (Nat.lt_succ_of_lt (Heap.lt_size e))
 have hacc : h1.get? s2.heap.objs.size = some { cls := .type "list", dict := none, data := .seq ([] : List Value).toArray } :=
  (hsb.2 _ hDC).trans (Heap.get?_push_of_some _ (hP ▸ Heap.get?_push_size _ rfl))
 have bok : (blk X N sc cl P2.objs.size fp s2 H2).Ok := Ju I hb c1 c2 hf fpo hCle
 have frD : ∀ {b : Addr}, s2.heap.objs.size <= b -> b ∉ frs X.stack := fun hb hz => by
  rcases mem_cons.mp (I.stkSub _ hz) with z | z
  ·exact absurd (z ▸ hb) (Nat.not_le.mpr I.lt)
  ·exact I.nofs hb z
 have cellD : ∀ x c, cl.lookup x = some c -> c < s2.heap.objs.size := fun x c e => by
  obtain ⟨v, q⟩ := I.cell x c (c1 x c e)
  exact q.lt
 have I0 : Inv (blk X N sc cl P2.objs.size fp s2 H2) [(s2.heap.objs.size, { cls := .type "list", dict := none, data := .seq ([] : List Value).toArray })] (lift ix σ) H2 { s2 with heap := h1, toks := s2.toks + ([] : List (Str × Value)).length } := by
  refine ⟨bok, rfl, I.bare, Un.kept old, ⟨_, hns, fun i x v e1 e2 e3 => ?_⟩, fun x c e => ?_, I.hok.fresh hCle, fun x c e => I.freeC x c (c1 x c e), fun p hp => ?_, I.hok.kept old, ?_⟩
  ·obtain ⟨k, q1, q2⟩ := Fg e2
   obtain ⟨y, z1, z2, z3⟩ := vG i k hi q1
   have e1' : N[i]? = some x := e1
   rw [e1'] at z1
   cases z1
   have hin : (x, NameKind.free) ∈ sc.names := PySem.mem_of_lookup z3
   obtain ⟨c, hcl⟩ := c2 x hin
   have okind : X.env.scope.names.lookup x = some .cell \/ X.env.scope.names.lookup x = some .free := by
    have := all_eq_true.mp hn _ hin
    simp only [and_eq_true] at this
    simpa using this.2
   obtain ⟨m, hm, hl⟩ := I.loc
   obtain ⟨u, r, l⟩ := hl k x v z2 q2 (by rcases okind with z | z; exact .inr (.inl z); exact .inr (.inr z))
   refine ⟨u, r, .inr ⟨sO z3, c, hcl, ?_⟩⟩
   rcases l with ⟨lk, _⟩ | ⟨_, c', hc', z⟩
   ·have lk' : X.env.scope.names.lookup x = some .local := lk
    rcases okind with q | q <;> rw [q] at lk' <;> cases lk'
   ·rw [c1 x c hcl] at hc'
    cases hc'
    obtain ⟨oc, ho, hd⟩ := z
    exact ⟨oc, old _ _ ho, hd⟩
  ·obtain ⟨v, oc, ho, hd⟩ := I.cell x c (c1 x c e)
   exact ⟨v, oc, old _ _ ho, hd⟩
  ·have hp' : p = (s2.heap.objs.size, { cls := .type "list", dict := none, data := .seq ([] : List Value).toArray }) := by
    rcases mem_append.mp hp with z | z
    ·exact absurd (show p ∈ ([] : List (Addr × Obj)) from z) Z2
    ·simpa using z
   subst hp'
   exact ⟨hacc, I.fresh, hDC, frD (le_refl _), fun v z => by cases z⟩
  ·show (lift ix σ).length = N.length
   unfold lift
   rw [length_map]
   exact qL hi
 have stat : ∀ {o : Obj} {H' : Hp}, (∀ b ∈ fp, H' b = none) -> ∀ b ∈ fp, qT (blk X N sc cl P2.objs.size fp s2 H2) [(s2.heap.objs.size, o)] H' b := fun {o H'} hz b hb => by
  obtain ⟨_, g2, g3, g4, g5, g6⟩ := hf b hb
  obtain ⟨ob, eb⟩ := fpo b hb
  have lb := Heap.lt_size eb
  refine ⟨hz b hb, ?_, ?_, .inl hb, fun x c e => g5 x c (c1 x c e), fun p hp => ?_⟩
  ·show b ≠ P2.objs.size
   rw [hC]; exact ne_of_lt (Nat.lt_succ_of_lt lb)
  ·intro hz
   rcases mem_cons.mp (I.stkSub b hz) with z | z
   ·exact g2 z
   ·exact g3 z
  ·have hp' : p = (s2.heap.objs.size, o) := by
    rcases mem_append.mp hp with z | z
    ·exact absurd (show p ∈ ([] : List (Addr × Obj)) from z) Z2
    ·simpa using z
   subst hp'
   show s2.heap.objs.size ≠ b
   exact ne_of_gt lb
 have loop : ∀ s4 : Shared, s4 = { s2 with heap := h1, toks := s2.toks + ([] : List (Str × Value)).length } ->
   codeAny (model X.prog X.w) X.A (.compLoop (.ListComp el [⟨tg, src, ifs, 0⟩] sc pos) 0 (.ref it) (.ref s2.heap.objs.size) (compEnvC sc cl P2.objs.size X.env)) (RR (.ref s2.heap.objs.size) P2.objs.size) s4 := by
  rintro s4 rfl
  refine KJ (fun n s' => ∃ (i : Nat) (τ : St) (ys : List V) (its : List Value) (k : Nat) (H' : Hp), Vals ys its /\ ys.length <= sizeLine /\
    Inv (blk X N sc cl P2.objs.size fp s2 H2) [(s2.heap.objs.size, { cls := .type "list", data := .seq its.toArray k })] τ H' s' /\ tn i s'.heap /\ (∀ b ∈ fp, H' b = none) /\ W i n τ ys H') ?_ m0
   ⟨0, _, [], [], 0, H2, .nil, zero_le _, I0, T.keep _ _ _ st fun b _ o e => old b o e, fun b hb => (hf b hb).1, w0⟩
  rintro n s5 ⟨i, τ, ys, its, k, H5, rv, hz, I5, st5, fr5, w5⟩
  rcases turn i n τ ys H5 w5 with ⟨stop, fin⟩ | ⟨go, step⟩
  ·refine thn (T.done (blk X N sc cl P2.objs.size fp s2 H2) rfl rfl rfl hc i _ s5 τ H5 (fun _ _ => False) I5 (stat fr5) st5 stop) fun r s6 ⟨hr, I6⟩ => ?_
   subst hr
   obtain ⟨m, hns6, _⟩ := I6.loc
   obtain ⟨gD, fD, _, _, _⟩ := I6.pin (s2.heap.objs.size, { cls := .type "list", data := .seq its.toArray k }) (mem_append_right _ Z2)
   have fD' : H5 s2.heap.objs.size = none := fD
   refine hRR _ _ s6 ys H5 fD' ⟨m, hns6⟩ ?_ (I.fpOk hCle ?_) fin
   ·refine I.call' (ch := fp) I6.os (Un.grow I6.base (le_refl _) I.fresh) (HOk.grow I6.hok fD' ⟨hz, its, k, rv, gD⟩) I6.bare fun b hb => ?_
    obtain ⟨_, g2, _, g4, g5, g6⟩ := hf b hb
    exact ⟨g4, g2, g5, g6⟩
   ·rw [aF (Ne.symm hDC)]
    exact I6.free
  ·refine thn (T.item (blk X N sc cl P2.objs.size fp s2 H2) rfl rfl rfl hc i _ s5 τ H5 (fun _ _ => False) I5 (stat fr5) st5 go) fun r s6 ⟨u, hr, h6⟩ => ?_
   subst hr
   refine thn h6 fun _ s7 ⟨x, H7, I7, r7, y7, st7, fr7⟩ => ?_
   have I7' := I7.pinned (stat fr7) (T.obj _ _ st7)
   refine thn (hg _ _ _ s7 τ H7 x u _ I7' r7 (step x H7 y7)) fun _ s8 ⟨τ8, H8, I8, q8⟩ => ?_
   refine thn (hfs _ _ _ s8 τ8 H8 _ I8 q8) fun ok s9 ⟨H9, I9, q9⟩ => ?_
   have tail : ∀ {s' : Shared} {τ' : St} {H' : Hp}, Inv (blk X N sc cl P2.objs.size fp s2 H2) ([(s2.heap.objs.size, { cls := .type "list", data := .seq its.toArray k })] ++ rR fp s7.heap) τ' H' s' ->
     (s'.heap.get? s2.heap.objs.size = some { cls := .type "list", data := .seq its.toArray k } /\ H' s2.heap.objs.size = none) /\ (∀ b ∈ fp, ∀ o, s7.heap.get? b = some o -> s'.heap.get? b = some o) /\ ∀ b ∈ fp, H' b = none := fun {s' τ' H'} I' => by
    refine ⟨?_, fun b hb o e => (I'.pin (b, o) (mem_append_right _ (mem_append_right _ (jH hb e)))).1, fun b hb => ?_⟩
    ·obtain ⟨a1, a2, _⟩ := I'.pin (s2.heap.objs.size, { cls := .type "list", data := .seq its.toArray k }) (mem_append_right _ (mem_append_left _ Z2))
     exact ⟨a1, a2⟩
    ·obtain ⟨o, e, _⟩ := T.obj _ _ st7 b hb
     exact (I'.pin (b, o) (mem_append_right _ (mem_append_right _ (jH hb e)))).2.1
   cases ok with
   | false =>
    obtain ⟨m', hm, w9⟩ := q9
    obtain ⟨_, k2, k3⟩ := tail I9
    exact ⟨m', hm, i + 1, τ8, ys, its, k, H9, rv, hz, I9.unpinned, T.keep _ _ _ st7 k2, k3, w9⟩
   | true =>
    refine thn (he _ _ _ s9 τ8 H9 _ I9 q9) fun v s10 ⟨y, H10, I10, r10, hl, m', hm, w10⟩ => ?_
    obtain ⟨⟨gD, fD⟩, k2, k3⟩ := tail I10
    have hlen := rv.length
    refine call_meets F.slot_list_append ⟨_, gD, rfl⟩ F.entry_list_append (F.args_list_append_2 _ _) (PySem.list_append s2.heap.objs.size its.toArray k v (by rw [size_toArray]; omega)) ⟨gD, ?_⟩
    obtain ⟨k', q⟩ : ∃ k', (s10.heap.update s2.heap.objs.size (Obj.mapSeq (·.push v))).get? s2.heap.objs.size = some { cls := .type "list", data := .seq (its ++ [v]).toArray k' } := by
     have q := PySem.IsL.update gD (·.push v)
     rw [show (its.toArray.push v) = (its ++ [v]).toArray from by simp] at q
     exact ⟨_, q⟩
    have other : ∀ b o, b ≠ s2.heap.objs.size -> s10.heap.get? b = some o -> (s10.heap.update s2.heap.objs.size (Obj.mapSeq (·.push v))).get? b = some o := fun b o hb e => (Heap.get?_update_other s10.heap _ (Ne.symm hb)).trans e
    have Ia : Inv (blk X N sc cl P2.objs.size fp s2 H2) [] τ8 H10 { s10 with heap := s10.heap.update s2.heap.objs.size (Obj.mapSeq (·.push v)), toks := s10.toks } :=
     (I10.pins_of (pins' := []) fun p hp => nomatch hp).turned other fD hDC (.inr (le_refl _)) (fun x c e => ne_of_lt (cellD x c e)) fun p hp => absurd (show p ∈ ([] : List (Addr × Obj)) from hp) Z2
    refine ⟨m', hm, i + 1, τ8, ys ++ [y], its ++ [v], k', H10, rv.append (.cons r10 .nil), by rw [length_append, List.length_singleton]; omega, ?_, T.keep _ _ _ st7 fun b hb o e => ?_, k3, w10⟩
    ·refine Ia.pins_of fun p hp => ?_
     have hp' := mem_singleton.mp hp
     subst hp'
     exact ⟨q, fD, hDC, frD (le_refl _), fun v z => by cases z⟩
    ·obtain ⟨ob, eb⟩ := fpo b hb
     exact other b o (ne_of_lt (Heap.lt_size eb)) (k2 b hb o e)
 exact codeAny_compStart_list (loop _ rfl) (T.self X.A 0 _ _ _ (T.keep _ _ _ st fun b _ o e => old b o e) (loop _ rfl))
end
section
variable {X : Cx} {N : List Str} {ix : List (Option Nat)} {sc : Scope} {el tg src : Expr} {ifs : List Expr} {wi : TI} {g : TG} {tf : TT} {te : TE} {pos : Pos}
theorem Inv.clos {pins : List (Addr × Obj)} {σ : St} {H : Hp} {s : Shared} (I : Inv X pins σ H s) (hb : lB X.env.scope X.N N ix sc = true) :
  ∃ cl : List (Str × Addr), closureFor sc X.env = pure cl /\ (∀ x c, cl.lookup x = some c -> X.env.cells.lookup x = some c) /\ ∀ x, (x, NameKind.free) ∈ sc.names -> ∃ c, cl.lookup x = some c := by
 refine Ff fun y hy hf => I.ok.has y.1 ?_
 unfold lB at hb
 simp only [and_eq_true] at hb
 have := all_eq_true.mp hb.1.2 y hy
 simp only [and_eq_true] at this
 have h2 := this.2
 rw [hf] at h2
 have h3 : X.env.scope.names.lookup y.1 = some .cell \/ X.env.scope.names.lookup y.1 = some .free := by simpa using h2
 exact h3
theorem tO (hb : lB X.env.scope X.N N ix sc = true) : sc.kind = .function /\ ∀ y ∈ sc.names, y.2 = .local -> sc.names.lookup y.1 = some .local := by
 unfold lB at hb
 simp only [and_eq_true] at hb
 refine ⟨eq_of_beq hb.1.1, fun y hy hl => ?_⟩
 have := all_eq_true.mp hb.1.2 y hy
 simp only [and_eq_true] at this
 have h2 := this.1.2
 rw [hl] at h2
 simpa using h2
theorem bG (ix : List (Option Nat)) (hc : X.calm = true) (hb : lB X.env.scope X.N N ix sc = true) (hi : PI X tg src wi)
  (hg : ∀ cl C fp s H, PG (blk X N sc cl C fp s H) tg g) (hf : ∀ cl C fp s H, PF (blk X N sc cl C fp s H) ifs tf) (he : ∀ cl C fp s H, PE (blk X N sc cl C fp s H) el te)
  (hs : ∀ x, foldedSetIterable src X.env x = pure x := by intro _; rfl) : PE X (.ListComp el [⟨tg, src, ifs, 0⟩] sc pos) (CN ix wi g tf te) := by
 intro pins s σ H Q I h
 obtain ⟨cl, hcl, c1, c2⟩ := I.clos hb
 obtain ⟨hk, hn⟩ := tO hb
 rw [eval_ListComp]
 refine wpAny_comprehension_free (use := none) rfl hs hcl hk hn (thn (hi pins s σ H _ I h) fun xv s1 h1 => thn h1 fun itv s2 h2 => ?_)
 obtain ⟨it, fp, tn, J, H2, rfl, I2, T, st, f2, hW⟩ := h2
 refine tX (RR := fun acc C => compPost (model X.prog X.w) X.A X.xe none (EP X pins σ Q) acc C) I2 hc hb c1 c2 T st f2 (fun C fp => hg cl C fp s2 H2) (fun C fp => hf cl C fp s2 H2) (fun C fp => he cl C fp s2 H2) hW ?_
 intro D C s' ys H' hD ⟨m, hm⟩ I' fC fin
 refine ⟨m, hm, fun h' hs' => ⟨.ref D, _, ?_, rfl, fin D hD⟩⟩
 obtain ⟨g1, g2, _, g4, g5, g6⟩ := fC
 exact I'.turned (t' := s'.toks) (fun b o hb e => (hs'.2 b hb).trans e) g1 g2 g4 g5 g6
theorem GD (ix : List (Option Nat)) {i : Nat} {x : Str} {pos' spos : Pos} (hN : X.N.Nodup) (hxi : X.N[i]? = some x) (hx : Loc X.env.scope x) (hc : X.calm = true) (hb : lB X.env.scope X.N N ix sc = true) (hi : PI X tg src wi)
  (hg : ∀ cl C fp s H, PG (blk X N sc cl C fp s H) tg g) (hf : ∀ cl C fp s H, PF (blk X N sc cl C fp s H) ifs tf) (he : ∀ cl C fp s H, PE (blk X N sc cl C fp s H) el te)
  (hsw : swapsWith (.ListComp el [⟨tg, src, ifs, 0⟩] sc pos) (some (.Name x pos')) spos.line X.env = pure true := by rfl)
  (hfn : X.fn x = true \/ X.env.scope.names.lookup x = some .local := by first | exact .inl rfl | exact .inr rfl | assumption)
  (hs : ∀ x, foldedSetIterable src X.env x = pure x := by intro _; rfl) : PS X (.Assign [.Name x pos'] (.ListComp el [⟨tg, src, ifs, 0⟩] sc pos) spos) (yo (CN ix wi g tf te) (gq i)) := by
 intro pins s σ H D0 I h
 obtain ⟨cl, hcl, c1, c2⟩ := I.clos hb
 obtain ⟨hk, hn⟩ := tO hb
 rw [exec_Assign_Name_used _ _ _ _ hsw]
 refine wpAny_bind (wpAny_standAt (wpAny_bind ?_))
 show wpAny _ X.A (do let _ <- comprehension (.ListComp el [⟨tg, src, ifs, 0⟩] sc pos) sc X.env _ (newList []) false (eval src X.env) (some (assign (.Name x pos') X.env))) _ _ s
 refine wpAny_bind (thn (wpAny_comprehension_free (use := some (assign (.Name x pos') X.env)) (Q := fun _ s' => SP X pins D0 .next s') rfl hs hcl hk hn (thn (hi pins s σ H _ I h) fun xv s1 h1 => thn h1 fun itv s2 h2 => ?_)) fun _ s' hq => wpAny_pure (wpAny_pure hq))
 obtain ⟨it, fp, tn, J, H2, rfl, I2, T, st, f2, hW⟩ := h2
 refine tX (RR := fun acc C => compPost (model X.prog X.w) X.A X.xe (some (assign (.Name x pos') X.env)) (fun _ s' => SP X pins D0 .next s') acc C) I2 hc hb c1 c2 T st f2 (fun C fp => hg cl C fp s2 H2) (fun C fp => hf cl C fp s2 H2) (fun C fp => he cl C fp s2 H2) hW ?_
 intro D C s' ys H' hD ⟨m, hm⟩ I' fC fin
 obtain ⟨g1, g2, _, g4, g5, g6⟩ := fC
 show wpAny _ X.A (assign (.Name x pos') X.env (.ref D)) _ _ _
 refine wpAny_assign_Name (uw (v := .ref D) I' hN hxi hx rfl (fun s'' I'' ⟨a, sb, ha⟩ => ?_) hfn)
 have hCa : C ≠ a := by
  rcases ha with z | z
  ·rw [z]; exact g2
  ·exact fun e => g5 x a z e.symm
 refine ⟨m, hm.sameBut sb hCa, fun h' hs' => ⟨_, _, I''.turned (t' := s''.toks) (fun b o hb e => (hs'.2 b hb).trans e) g1 g2 g4 g5 g6, fin D hD⟩⟩
end
theorem qY {lo : Int} {n : Nat} {tf : TT} {te : TE} {τ0 : St} {H : Hp} {Fin : List V -> Hp -> Prop} (f : Nat -> V) (hn : n <= sizeLine)
  (hte : ∀ i H' Q, i < n -> au H H' -> (∀ H'', au H' H'' -> Q (f i) H'') -> tf (τ0.set 0 (some (.int (lo + i)))) H' fun b H3 => b = true /\ te (τ0.set 0 (some (.int (lo + i)))) H3 Q)
  (mono : ∀ τ H Q Q', (∀ b H1, Q b H1 -> Q' b H1) -> tf τ H Q -> tf τ H Q')
  (hfin : ∀ H', au H H' -> Fin ((List.range n).map f) H') : oG (gq 0) tf te (Itr lo n) τ0 H Fin := by
 refine ⟨fun i m τ ys H' => m = n - i /\ i <= n /\ ys = (List.range i).map f /\ au H H' /\ ∃ v, τ = τ0.set 0 v \/ τ = τ0, ⟨n, rfl, zero_le _, rfl, au.refl _, none, .inr rfl⟩, ?_⟩
 rintro i m τ ys H' ⟨rfl, hi, rfl, sm, v, hτ⟩
 by_cases hlt : i < n
 ·refine .inr ⟨hlt, fun x H'' y => ?_⟩
  obtain ⟨e, y⟩ := y
  subst e y
  have e2 : τ.set 0 (some (V.int (lo + i))) = τ0.set 0 (some (V.int (lo + i))) := by
   rcases hτ with rfl | rfl
   ·rw [set_set]
   ·rfl
  show tf (τ.set 0 (some (V.int (lo + i)))) H'' _
  rw [e2]
  refine mono _ _ _ _ ?_ (hte i H'' (fun y H4 => ((List.range i).map f).length < sizeLine /\ ∃ m', m' < n - i /\ (m' = n - (i + 1) /\ i + 1 <= n /\ (List.range i).map f ++ [y] = (List.range (i + 1)).map f /\ au H H4 /\ ∃ v, τ0.set 0 (some (V.int (lo + i))) = τ0.set 0 v \/ τ0.set 0 (some (V.int (lo + i))) = τ0)) hlt sm fun H4 s4 => ?_)
  ·rintro b H1 ⟨rfl, q⟩
   rw [if_pos rfl]
   exact q
  ·refine ⟨by rw [length_map, length_range]; omega, n - (i + 1), Z1, rfl, hlt, by rw [List.range_succ, map_append]; rfl, sm.trans s4, _, .inl rfl⟩
 ·have e : i = n := by omega
  subst e
  exact .inl ⟨le_refl _, hfin H' sm⟩
theorem gj {c A B : Prop} [Decidable c] (h1 : c -> A) (h2 : ¬ c -> B) : if decide c = true then A else B := by
 by_cases h : c
 ·rw [if_pos (decide_eq_true h)]; exact h1 h
 ·rw [if_neg (by simpa using h)]; exact h2 h
theorem My {i j : Int} {A B : Prop} (h1 : i = j -> A) (h2 : ¬ i = j -> B) : if decide (V.int i = V.int j) = true then A else B :=
 gj (fun h => h1 (V.int.inj h)) fun h => h2 fun e => h (congrArg V.int e)
theorem au.new {H : Hp} {p : Addr} {o : HO} (h : H p = none) : au H (upd H p o) := fun b u e => by
 rw [aF (aD e h)]; exact e
theorem au.put {H H' : Hp} {p : Addr} {o : HO} (s : au H H') (h : H' p = none) : au H (upd H' p o) := s.trans (au.new h)
theorem au.over {H H' : Hp} {p : Addr} {o : HO} (s : au H H') (h : H p = none) : au H (upd H' p o) := fun b u e => by
 rw [aF (aD e h)]; exact s b u e
structure FnAt (K : Frag) (mg : Str -> Option Value) (x : Str) (st : Stmt) (ps : List Str) (f : Addr) (fd : FuncData) : Prop where
 F : Fun K x x st f fd
 b : Binds K fd ps []
 m : mg x = some (.ref f)
section
variable {X : Cx} {k : Nat} {f : Addr} {fd : FuncData} {ps : List Str} {sp : Sp} {x : Str} {st : Stmt} {p pos : Pos} {e : Expr} {es : List Expr} {t : TA}
theorem aR (A : FnAt X.K X.mg x st ps f fd) (G : aM X.prog X.w X.K X.mg X.base CX0 k f fd ps sp) (hr : aP k X.A) (ha : PA X (e :: es) t) (hg : Gl X x := by rfl)
  (hdb : (x == ("__debug__" : Str)) = false := by decide) (he : starEach (e :: es) X.env = (false, eval e X.env) :: starEach es X.env := by rfl) (hpl : (backTo pos (starEach es X.env)).any (·.1) = false := by rfl) :
  PE X (.Call (.Name x p) (e :: es) [] pos) (G5 sp [] E0 t) := FQ G hr hg A.m A.F.kp A.b .nil qP ha hdb he hpl
end
def Pur (v : V) (H : Hp) (Q : VK) : Prop := ∀ H', au H H' -> Q v H'
end L2
namespace Mine
open PySem PySem.Spec PyProof.Rows L2
def lC : Sp := fun vs H Q _ => ∃ (c k m : Int), vs = [.int c, .int k, .int m] /\ 0 <= k /\ k < 40 /\ 0 < m /\ Pur (.int (pick c k m)) H Q
end Mine
namespace L2
open PySem PySem.Spec PyProof.Rows
section
variable {X : Cx}
def TV : V -> Option Int -> Option Int -> Hp -> VK -> Prop := fun x lo hi H Q => ∃ z, x = .str z /\ z.length <= sizeLine /\ Q (.str (Txt.slice z lo hi)) H
theorem part_of {v : Value} {o : Option Int} (p : IsPart v o) : ∃ l : Option (Int × Tok), v = partValue l /\ o = l.map (·.1) := by
 cases p with
 | none => exact ⟨none, rfl, rfl⟩
 | int i t => exact ⟨some (i, t), rfl, rfl⟩
theorem JG : SlR X TV := by
 intro pins s σ H x v vl vu lo hi sl Q I rx hs pl pu h
 obtain ⟨z, rfl, hz, q⟩ := h
 obtain ⟨t, rfl⟩ := rx
 obtain ⟨l, rfl, rfl⟩ := part_of pl
 obtain ⟨u, rfl, rfl⟩ := part_of pu
 obtain ⟨os, h1, h2, h3⟩ := hs
 refine ⟨"str", _, F.slot_str_getitem.lookup, typeIs_str _ _ _, ?_⟩
 exact wpAny_getItem_str_slice (l := l) (u := u) (st := none) ⟨os, h1, h2, h3⟩ rfl (post_val_or_str ⟨le_trans (Txt.slice_le z _ _) hz, fun t' k => ⟨.str _, H, I.tok k, ⟨t', rfl⟩, q⟩⟩)
def Its (z : Str) : It := ⟨fun i _ => i < z.cps.size, fun i H x H' => H' = H /\ ∃ c, z.cps.toList[i]? = some c /\ x = .str ⟨#[c]⟩, fun i _ => z.cps.size <= i⟩
theorem wH {P : Program} {w : World} {K : Frag} {tg : Expr} (it : Addr) (z : Str) (t : Tok) (ty : String)
  (hW : ∀ A : Around, A.handled = none -> Walks P w A it [it] [it] z.cps.size (SignAt z) (fun i h => h.IsStrIter it ty z t i))
  (hn : ["enumerate", "zip", "dict_itemiterator", "dict_reverseitemiterator", "odict_iterator", "itertools.zip_longest", "itertools.pairwise"].contains ty = false)
  (hself : ∀ (A : Around) (i : Nat) (s : Shared) (Q : Value -> Shared -> Prop) (E : Value -> Shared -> Prop), s.heap.IsStrIter it ty z t i -> Q (.ref it) s -> wpAny (model P w) A (pyIter (.ref it)) Q E s) :
  Turn P w K tg (Its z) [it] it (fun i h => i <= z.cps.size /\ h.IsStrIter it ty z t i) where
 mem := by simp
 obj := fun i h st b hb => by
  have e : b = it := by simpa using hb
  subst e
  obtain ⟨_, o, e, c, d⟩ := st
  exact ⟨o, e, fun v z => by rw [d] at z; cases z⟩
 keep := fun i h h' st k => by
  obtain ⟨hi, o, e, r⟩ := st
  exact ⟨hi, o, k it Z2 o e, r⟩
 item := by
  intro X hP hw hK hc i pins s σ H E I hf st hg
  subst hP hw hK
  obtain ⟨f0, f1, f2, f3, f4, f5⟩ := hf it Z2
  refine (hW X.A (I.ok.hd hc)).item i s _ _ hg st.2 fun v h' tk hv st' kk => ?_
  obtain ⟨c, u, hx, rfl⟩ := hv
  have I1 : Inv X pins σ H { s with heap := h', toks := tk } := I.turned (fun b o hb e => kk b o (by simpa using hb) e) f0 f1 f3 f4 f5
  obtain ⟨o, e, hcl, d⟩ := id st'
  exact ⟨_, rfl, zx (s := { s with heap := h', toks := tk }) e hcl d hn ⟨.str ⟨#[c]⟩, H, I1, ⟨u, rfl⟩, ⟨rfl, c, by simpa using hx, rfl⟩, ⟨hg, st'⟩, fun b hb => (hf b hb).1⟩⟩
 done := by
  intro X hP hw hK hc i pins s σ H E I hf st hg
  subst hP hw hK
  obtain ⟨f0, f1, f2, f3, f4, f5⟩ := hf it Z2
  obtain ⟨hi, st⟩ := st
  have e : i = z.cps.size := Nat.le_antisymm hi hg
  subst e
  exact (hW X.A (I.ok.hd hc)).done s _ _ st fun h' tk kk => ⟨rfl, I.turned (fun b o hb e => kk b o (by simpa using hb) e) f0 f1 f3 f4 f5⟩
 self := fun A i s Q E st h => hself A i s Q E st.2 h
def Ux (tl : TE) : TI := fun σ H R => tl σ H fun x H1 => ∃ z, x = .str z /\ R (Its z) H1
theorem JF {tg l : Expr} {tl : TE} (hl : PE X l tl) : PI X tg l (Ux tl) := by
 intro pins s σ H R I h
 refine thn (hl pins s σ H _ I h) fun v s1 ⟨x, H1, I1, r1, q1⟩ => ?_
 obtain ⟨z, rfl, q⟩ := q1
 obtain ⟨t, rfl⟩ := r1
 have fin : ∀ (o : Obj) (b : Addr), b ∈ [s1.heap.objs.size] -> qT X pins H1 b := fun o b hb => by
  have e : b = s1.heap.objs.size := by simpa using hb
  subst e
  exact I1.fpOk (le_refl _) (I1.hok.fresh (le_refl _))
 cases ha : z.cps.all (· < 128)
 ·refine wpAny_pyIter_wide ha ?_
  exact ⟨s1.heap.objs.size, [s1.heap.objs.size], _, _, H1, rfl, I1.kept (t' := s1.toks) fun b o e => Heap.get?_push_of_some _ e,
   wH _ z t "str_iterator" (fun A hA => Walks.strWide hA _ z t) Z0 (fun A i s Q E st h => wpAny_pyIter_striter_wide st h), ⟨zero_le _, _, Heap.get?_push_size _ rfl, rfl, rfl⟩, fin default, q⟩
 ·refine wpAny_pyIter_ascii ha ?_
  exact ⟨s1.heap.objs.size, [s1.heap.objs.size], _, _, H1, rfl, I1.kept (t' := s1.toks) fun b o e => Heap.get?_push_of_some _ e,
   wH _ z t "str_ascii_iterator" (fun A hA => Walks.strAscii hA _ z t) Z0 (fun A i s Q E st h => wpAny_pyIter_striter_ascii st h), ⟨zero_le _, _, Heap.get?_push_size _ rfl, rfl, rfl⟩, fin default, q⟩
theorem CJ {z : Str} {te : TE} {τ0 : St} {H : Hp} {Fin : List V -> Hp -> Prop} (f : Nat -> V) (hn : z.length <= sizeLine)
  (hte : ∀ c H' Q, c ∈ z.cps.toList -> au H H' -> (∀ H'', au H' H'' -> Q (f c) H'') -> te (τ0.set 0 (some (.str ⟨#[c]⟩))) H' Q)
  (hfin : ∀ H', au H H' -> Fin (z.cps.toList.map f) H') : oG (gq 0) wO te (Its z) τ0 H Fin := by
 have hz : z.cps.size = z.cps.toList.length := by simp
 have hn' : z.cps.toList.length <= sizeLine := by rw [<- hz]; exact hn
 refine ⟨fun i m τ ys H' => m = z.cps.size - i /\ i <= z.cps.size /\ ys = (z.cps.toList.take i).map f /\ au H H' /\ ∃ v, τ = τ0.set 0 v \/ τ = τ0, ⟨z.cps.size, rfl, zero_le _, rfl, au.refl _, none, .inr rfl⟩, ?_⟩
 rintro i m τ ys H' ⟨rfl, hi, rfl, sm, v, hτ⟩
 by_cases hlt : i < z.cps.size
 ·refine .inr ⟨hlt, fun x H'' y => ?_⟩
  obtain ⟨e, c, hc, y⟩ := y
  subst e y
  have e2 : τ.set 0 (some (V.str ⟨#[c]⟩)) = τ0.set 0 (some (V.str ⟨#[c]⟩)) := by
   rcases hτ with rfl | rfl
   ·rw [set_set]
   ·rfl
  unfold gq wO
  rw [e2]
  dsimp only
  rw [if_pos rfl]
  refine hte c H'' _ (mem_of_getElem? hc) sm fun H4 s4 => ?_
  refine ⟨by rw [length_map, length_take]; omega, z.cps.size - (i + 1), Z1, rfl, hlt, ?_, sm.trans s4, _, .inl rfl⟩
  rw [List.take_add_one, hc, map_append]
  rfl
 ·have e : i = z.cps.size := by omega
  subst e
  exact .inl ⟨le_refl _, by have := hfin H' sm; rw [hz, take_length]; exact this⟩
theorem HW {bs : List Bool} : ∀ {us : List Value} {i : Nat} {v : Value}, Vals (bs.map V.bl) us -> us[i]? = some v -> v = .bool (bs.getD i false) := by
 induction bs with
 | nil => intro us i v r h; rw [map_nil] at r; cases r; simp at h
 | cons b bs ih =>
  intro us i v r h
  rw [map_cons] at r
  cases r with
  | cons r1 r2 =>
   cases i with
   | zero =>
    have r1' : _ = Value.bool b := r1
    simp at h
    rw [<- h, r1']
    rfl
   | succ i => exact ih r2 (by simpa using h)
theorem range_any (bs : List Bool) : (List.range bs.length).any (fun i => bs.getD i false) = bs.any id := by
 have e : (List.range bs.length).map (fun i => bs.getD i false) = bs := by
  apply ext_getElem
  ·simp
  ·intro i h1 h2
   simp [List.getD_eq_getElem?_getD, h2]
 conv => rhs; rw [<- e]
 rw [List.any_map]; rfl
def Ug (K : Frag) (f : List Bool -> Bool) : List V -> Hp -> VK -> Prop := fun xs H Q => ∃ p bs, xs = [.ref p] /\ SqL K H p (bs.map V.bl) /\ Q (.bl (f bs)) H
end
section
variable {X : Cx} {K : Frag}
theorem rD (h : X.K = K) : MtR X "str.join" (rJoin K) := by subst h; exact u9
theorem qR (h : X.K = K) : SlR X (MJ K) := by subst h; exact nR
theorem wj (h : X.K = K) : IxR X (Ny K) := by subst h; exact bC
theorem GC (h : X.K = K) : IxR X (Kg K) := by subst h; exact xY
theorem Ci {tg l : Expr} {tl : TE} (h : X.K = K) (hl : PE X l tl) : PI X tg l (G7 K tl) := by subst h; exact aU hl
variable {o e : Expr} {es : List Expr} {to : TE} {t : TA} {name : Str} {apos cpos : Pos} {T id : String} {r : V -> List V -> Hp -> VK -> Prop}
theorem uT (h : X.K = K) (pa : PlainAttrs T) (slot : Slot T name id) (hty : typeOf (.builtin id) = pure (.type "method_descriptor")) (hm : MtR X id r) (ho : PE X o to) (ha : PA X (e :: es) t)
  (hbase : attributeBase o name X.env (eval o X.env) = eval o X.env := by rfl)
  (hfew : ((backTo cpos (starEach (e :: es) X.env)).all (fun x => !x.1) && (backToKw cpos (keywordEach [] X.env)).all (fun x => x.1.isSome)
   && decide ((e :: es).length + ([] : List Keyword).length + (if ([] : List Keyword).isEmpty then 0 else 1) < 30)) = true := by rfl)
  (hline : (apos.endLine == cpos.line) = true := by rfl) (hs : starEach (e :: es) X.env = (false, eval e X.env) :: starEach es X.env := by rfl) (hplain : (backTo cpos (starEach es X.env)).any (·.1) = false := by rfl) :
  PE X (.Call (.Attribute o name apos) (e :: es) [] cpos) (tBM K T r to t) := by
 subst h
 exact dq pa slot hty hm ho ha hbase hfew hline hs hplain
end
structure QS (X : Cx) (st : Stmt) (t : TS) : Prop where
 h : PS X st t
structure QSs (X : Cx) (st : List Stmt) (t : TS) : Prop where
 h : PSs X st t
section
variable {X : Cx} {st : Stmt} {rest : List Stmt} {t u : TS} {e : Expr} {te : TE} {pos : Pos}
theorem aW : QSs X [] Hn := ⟨uN⟩
theorem ao (h1 : QS X st t) (h2 : QSs X rest u) : QSs X (st :: rest) (RD t u) := ⟨gn h1.h h2.h⟩
theorem az (h1 : QS X st t) : QSs X [st] t := ⟨oV h1.h⟩
theorem oH : QS X st Cp := ⟨DK⟩
theorem bY (he : PE X e te) (hs : swapsWith e none pos.line X.env = pure false := by rfl) : QS X (.Expr e pos) (Hj te) := ⟨Fp he hs⟩
theorem aO (he : PE X e te) : QS X (.Return (some e) pos) (Qv te) := ⟨rm he⟩
theorem bJ {c : Expr} {a b : List Stmt} {tc : TT} (hc : PT X c tc) (ha : QSs X a t) (hb : QSs X b u) : QS X (.If c a b pos) (Qs tc t u) := ⟨CQ hc ha.h hb.h⟩
theorem bU {tg iter : Expr} {body : List Stmt} {wi : TI} {g : TG} {tb : TS} (hp : PassesOwn (model X.prog X.w) X.A X.env X.xe) (hc : X.calm = true) (hi : PI X tg iter wi) (hg : PG X tg g) (hb : QSs X body tb) (hs : ∀ x, foldedSetIterable iter X.env x = pure x := by intro _; rfl) : QS X (.For tg iter body [] pos) (Ob wi g tb) := ⟨Iw hp hc hi hg hb.h hs⟩
theorem yK {tg : Expr} {g : TG} (he : PE X e te) (hg : PG X tg g) (hs : swapsWithSole [tg] e pos.line X.env = pure false := by rfl) (hw : swappedStores [tg] e X.env = pure none := by rfl)
  (h1 : (assignEach [tg] X.env).map (·.2) = [assign tg X.env] := by rfl) : QS X (.Assign [tg] e pos) (yo te g) := ⟨HN he hg hs hw h1⟩
theorem aL {i : Nat} {x : Str} {pos' : Pos} (hN : X.N.Nodup) (hi : X.N[i]? = some x) (hx : Loc X.env.scope x) (he : PE X e te) (hs : swapsWith e (some (.Name x pos')) pos.line X.env = pure false := by rfl) (hf : X.fn x = true \/ X.env.scope.names.lookup x = some .local := by first | exact .inl rfl | exact .inr rfl | assumption) :
  QS X (.Assign [.Name x pos'] e pos) (yo te (gq i)) := ⟨m7 hN hi hx he hs hf⟩
end
section
variable {X : Cx} {N : List Str} {sc : Scope} {el tg src : Expr} {ifs : List Expr} {wi : TI} {g : TG} {tf : TT} {te : TE} {pos : Pos}
theorem iG (ix : List (Option Nat)) {i : Nat} {x : Str} {pos' spos : Pos} (hN : X.N.Nodup) (hxi : X.N[i]? = some x) (hx : Loc X.env.scope x) (hc : X.calm = true) (hb : lB X.env.scope X.N N ix sc = true) (hi : PI X tg src wi)
  (hg : ∀ cl C fp s H, PG (blk X N sc cl C fp s H) tg g) (hf : ∀ cl C fp s H, PF (blk X N sc cl C fp s H) ifs tf) (he : ∀ cl C fp s H, PE (blk X N sc cl C fp s H) el te)
  (hsw : swapsWith (.ListComp el [⟨tg, src, ifs, 0⟩] sc pos) (some (.Name x pos')) spos.line X.env = pure true := by rfl)
  (hfn : X.fn x = true \/ X.env.scope.names.lookup x = some .local := by first | exact .inl rfl | exact .inr rfl | assumption)
  (hs : ∀ x, foldedSetIterable src X.env x = pure x := by intro _; rfl) : QS X (.Assign [.Name x pos'] (.ListComp el [⟨tg, src, ifs, 0⟩] sc pos) spos) (yo (CN ix wi g tf te) (gq i)) :=
 ⟨GD ix hN hxi hx hc hb hi hg hf he hsw hfn hs⟩
end
structure QA (X : Cx) (es : List Expr) (t : TA) : Prop where
 h : PA X es t
section
variable {X : Cx} {e : Expr} {es : List Expr} {te : TE} {t : TA} {pos : Pos}
theorem Ek : QA X [] HJ := ⟨aq⟩
theorem bZ (ha : PE X e te) (hr : QA X es t) (hs : starEach (e :: es) X.env = (false, eval e X.env) :: starEach es X.env := by rfl) : QA X (e :: es) (Hq te t) := ⟨aj ha hr.h hs⟩
theorem Ir (h : QA X es t) : PE X (.List es pos) (IV t) := bz h.h
end
structure QE (X : Cx) (e : Expr) (t : TE) : Prop where
 h : PE X e t
section
variable {X : Cx} {a b e : Expr} {ta tb te : TE} {es : List Expr} {t : TA} {pos : Pos}
theorem Gb (h : QA X es t) : QE X (.List es pos) (IV t) := ⟨bz h.h⟩
theorem MT {r : R2} (hr : IxR X r) (ha : QE X a ta) (hb : PE X b tb) (hs : zG b) : QE X (.Subscript a b pos) (tOp r ta tb) := ⟨bW hr ha.h hb hs⟩
theorem Gj {i : Nat} {x : Str} {pos' : Pos} (hN : X.N.Nodup) (hi : X.N[i]? = some x) (hx : Loc X.env.scope x) (he : QE X e te) (hs : swapsWith e (some (.Name x pos')) pos.line X.env = pure false := by rfl) (hf : X.fn x = true \/ X.env.scope.names.lookup x = some .local := by first | exact .inl rfl | exact .inr rfl | assumption) :
  QS X (.Assign [.Name x pos'] e pos) (yo te (gq i)) := ⟨m7 hN hi hx he.h hs hf⟩
end
section
variable {X : Cx} {x : Str} {pos : Pos}
theorem Gk {y : Int} (h : ∃ t, X.mg x = some (.int y t)) (hg : Gl X x := by rfl) (hd : (x == ("__debug__" : Str)) = false := by decide) : PE X (.Name x pos) (tC (.int y)) := by
 obtain ⟨t, e⟩ := h
 exact zq hg e ⟨t, rfl⟩ hd
end
end L2
namespace Mine
open PySem PySem.Spec PyProof.Rows L2 PySem.Builtin PySem.Builtin.Str
theorem uY (a b : Str) : (a ++ b).length = a.length + b.length := by rw [fL, fL, fL, cA, length_append]
theorem dC : 1000 <= sizeLine := by decide
end Mine
namespace L2
open PySem PySem.Spec PyProof.Rows
theorem cU {b : Bool} {A B : Prop} (e : b = true) (h : A) : if b = true then A else B := by rw [if_pos e]; exact h
theorem bj {b : Bool} {A B : Prop} (e : b = false) (h : B) : if b = true then A else B := by rw [if_neg (by rw [e]; decide)]; exact h
theorem vR {b : Bool} {A B : Prop} (e : b = true) (h : B) : if (!b) = true then A else B := by rw [if_neg (by rw [e]; decide)]; exact h
theorem yz {b : Bool} {A B : Prop} (e : b = false) (h : A) : if (!b) = true then A else B := by rw [if_pos (by rw [e]; decide)]; exact h
end L2
namespace Mine
open PySem PySem.Spec PyProof.Rows L2 PySem.Builtin PySem.Builtin.Str
theorem mF {ys : List Str} (h0 : ys ≠ []) (h : ∀ y ∈ ys, cQ y) : ∃ c ∈ (dotted ys).cps.toList, 97 <= c /\ c <= 122 := by
 cases ys with
 | nil => exact absurd rfl h0
 | cons y r =>
  have hy := h y mem_cons_self
  cases e : y.cps.toList with
  | nil => have := hy.lo; rw [fL, e] at this; simp at this
  | cons c q =>
   have hc : c ∈ y.cps.toList := by rw [e]; simp
   refine ⟨c, ?_, hy.ok c hc⟩
   rw [cj, jQ]
   obtain ⟨R, e1, _⟩ := mZ 46 y.cps.toList (r.map (·.cps.toList))
   rw [map_cons, e1]
   exact mem_append_left _ hc
end Mine
namespace L2
open PySem PySem.Spec PyProof.Rows
inductive DEq (K : Frag) (H : Hp) : Nat -> V -> V -> Prop where
 | non {n : Nat} : DEq K H n .non .non
 | bl {n : Nat} (b : Bool) : DEq K H n (.bl b) (.bl b)
 | int {n : Nat} (i : Int) : DEq K H n (.int i) (.int i)
 | str {n : Nat} (x : Str) : DEq K H n (.str x) (.str x)
 | same {n : Nat} (a : Addr) : DEq K H n (.ref a) (.ref a)
 | tup {n : Nat} {a b : Addr} {xs ys : List V} (ha : SqT K H a xs) (hb : SqT K H b ys) (hl : xs.length = ys.length) (h : ∀ (i : Nat) x y, xs[i]? = some x -> ys[i]? = some y -> DEq K H n x y) : DEq K H (n + 1) (.ref a) (.ref b)
 | lst {n : Nat} {a b : Addr} {xs ys : List V} (ha : SqL K H a xs) (hb : SqL K H b ys) (hl : xs.length = ys.length) (h : ∀ (i : Nat) x y, xs[i]? = some x -> ys[i]? = some y -> DEq K H n x y) : DEq K H (n + 1) (.ref a) (.ref b)
section
variable {X : Cx} {pins : List (Addr × Obj)} {σ : St} {H : Hp} {s : Shared}
theorem Vals.at {xs : List V} {us : List Value} (r : Vals xs us) {j : Nat} (h : j < us.length) : ∃ x, xs[j]? = some x /\ RelV x us[j] := by
 have hl := r.length
 have hx : xs[j]? = some xs[j] := getElem?_eq_getElem Z1
 obtain ⟨u, hu, ru⟩ := r.get hx
 rw [getElem?_eq_getElem h] at hu
 cases hu
 exact ⟨_, hx, ru⟩
theorem jl (n : Nat) : (List.range n).all (fun _ => true) = true := by simp
theorem DEq.at (I : Inv X pins σ H s) {n : Nat} {x y : V} (d : DEq X.K H n x y) : ∀ {A : Around} {u v : Value}, A.units + n < cLine -> RelV x u -> RelV y v -> SeqAt.EqAt A s u v true := by
 induction d with
 | non => intro A u v hu ru rv; cases ru; cases rv; exact SeqAt.EqAt.same _
 | bl b => intro A u v hu ru rv; cases ru; cases rv; exact SeqAt.EqAt.same _
 | int i =>
  intro A u v hu ru rv
  obtain ⟨t, rfl⟩ := ru
  obtain ⟨t', rfl⟩ := rv
  have := SeqAt.EqAt.int_int (A := A) (s := s) i t i t'
  rwa [beq_self_eq_true] at this
 | str x =>
  intro A u v hu ru rv
  obtain ⟨t, rfl⟩ := ru
  obtain ⟨t', rfl⟩ := rv
  have := SeqAt.EqAt.str_str (A := A) (s := s) x t x t'
  rwa [beq_self_eq_true] at this
 | same a => intro A u v hu ru rv; cases ru; cases rv; exact SeqAt.EqAt.same _
 | @tup n a b xs ys ha hb hl h ih =>
  intro A u v hu ru rv
  cases ru; cases rv
  by_cases hab : a = b
  ·subst hab; exact SeqAt.EqAt.same _
  ·obtain ⟨us, r1, p1, _⟩ := I.tuple ha
   obtain ⟨ws, r2, p2, _⟩ := I.tuple hb
   have l1 := r1.length
   have l2 := r2.length
   have := SeqAt.RcAt.tuples (A := A) (s := s) (e := fun _ => true) (show s.heap.IsTuple a us.toArray from p1) (show s.heap.IsTuple b ws.toArray from p2) Z1 fun j h1 h2 => by
    have h1' : j < us.length := by simpa using h1
    have h2' : j < ws.length := by simpa using h2
    obtain ⟨x, ex, rx⟩ := r1.at h1'
    obtain ⟨y, ey, ry⟩ := r2.at h2'
    exact ih j x y ex ey (A := A.in1) (show A.units + 1 + n < cLine by omega) (by simpa using rx) (by simpa using ry)
   rw [jl, show (us.toArray.size == ws.toArray.size) = true from by simp; omega] at this
   exact SeqAt.EqAt.of_refs hab this
 | @lst n a b xs ys ha hb hl h ih =>
  intro A u v hu ru rv
  cases ru; cases rv
  by_cases hab : a = b
  ·subst hab; exact SeqAt.EqAt.same _
  ·obtain ⟨us, r1, p1, _⟩ := I.list ha
   obtain ⟨ws, r2, p2, _⟩ := I.list hb
   have l1 := r1.length
   have l2 := r2.length
   have := SeqAt.RcAt.lists (A := A) (s := s) (e := fun _ => true) p1.isList p2.isList Z6 Z1 fun j h1 h2 => by
    have h1' : j < us.length := by simpa using h1
    have h2' : j < ws.length := by simpa using h2
    obtain ⟨x, ex, rx⟩ := r1.at h1'
    obtain ⟨y, ey, ry⟩ := r2.at h2'
    exact ih j x y ex ey (A := A.in1) (show A.units + 1 + n < cLine by omega) (by simpa using rx) (by simpa using ry)
   rw [jl] at this
   exact SeqAt.EqAt.of_refs hab this
def DSq (K : Frag) (H : Hp) (a b : Addr) : Prop := ∃ (n : Nat) (xs ys : List V), n <= 60 /\ xs.length = ys.length /\ ((SqT K H a xs /\ SqT K H b ys) \/ (SqL K H a xs /\ SqL K H b ys)) /\ ∀ (i : Nat) x y, xs[i]? = some x -> ys[i]? = some y -> DEq K H n x y
def Rc (K : Frag) (r : Bool) : R2 := fun x y H Q => ∃ a b, x = .ref a /\ y = .ref b /\ DSq K H a b /\ Q (.bl r) H
theorem Jr {K : Frag} (hK : X.K = K) (hu : X.A.units + 64 < cLine) : OpR X (compareOp .Eq) (Rc K true) := by
 subst hK
 intro pins s σ H x y v u Q I rx ry h
 obtain ⟨a, b, rfl, rfl, ⟨n, xs, ys, hn, hl, hs, hd⟩, q⟩ := h
 cases rx; cases ry
 have fin : EP X pins σ Q (.bool true) s := ⟨.bl true, H, I, rfl, q⟩
 rcases hs with ⟨ha, hb⟩ | ⟨ha, hb⟩
 ·obtain ⟨us, r1, p1, _⟩ := I.tuple ha
  obtain ⟨ws, r2, p2, _⟩ := I.tuple hb
  have l1 := r1.length
  have l2 := r2.length
  refine SeqAt.eq_tupleAt (e := fun _ => true) (show s.heap.IsTuple a us.toArray from p1) (show s.heap.IsTuple b ws.toArray from p2) Z1 (fun j h1 h2 => ?_) ?_
  ·have h1' : j < us.length := by simpa using h1
   have h2' : j < ws.length := by simpa using h2
   obtain ⟨x, ex, rx⟩ := r1.at h1'
   obtain ⟨y, ey, ry⟩ := r2.at h2'
   exact DEq.at I (hd j x y ex ey) (A := X.A.in1) (show X.A.units + 1 + n < cLine by omega) (by simpa using rx) (by simpa using ry)
  ·rw [jl, show (us.toArray.size == ws.toArray.size) = true from by simp; omega]
   exact fin
 ·obtain ⟨us, r1, p1, _⟩ := I.list ha
  obtain ⟨ws, r2, p2, _⟩ := I.list hb
  have l1 := r1.length
  have l2 := r2.length
  refine SeqAt.eq_listAt (e := fun _ => true) p1.isList p2.isList Z6 Z1 (fun j h1 h2 => ?_) ?_
  ·have h1' : j < us.length := by simpa using h1
   have h2' : j < ws.length := by simpa using h2
   obtain ⟨x, ex, rx⟩ := r1.at h1'
   obtain ⟨y, ey, ry⟩ := r2.at h2'
   exact DEq.at I (hd j x y ex ey) (A := X.A.in1) (show X.A.units + 1 + n < cLine by omega) (by simpa using rx) (by simpa using ry)
  ·rw [jl]
   exact fin
theorem Di {K : Frag} (hK : X.K = K) (hu : X.A.units + 64 < cLine) : OpR X (compareOp .NotEq) (Rc K false) := by
 subst hK
 intro pins s σ H x y v u Q I rx ry h
 obtain ⟨a, b, rfl, rfl, ⟨n, xs, ys, hn, hl, hs, hd⟩, q⟩ := h
 cases rx; cases ry
 have fin : EP X pins σ Q (.bool false) s := ⟨.bl false, H, I, rfl, q⟩
 rcases hs with ⟨ha, hb⟩ | ⟨ha, hb⟩
 ·obtain ⟨us, r1, p1, _⟩ := I.tuple ha
  obtain ⟨ws, r2, p2, _⟩ := I.tuple hb
  have l1 := r1.length
  have l2 := r2.length
  have := SeqAt.RcNeAt.tuples (A := X.A) (s := s) (e := fun _ => true) (show s.heap.IsTuple a us.toArray from p1) (show s.heap.IsTuple b ws.toArray from p2) Z1 fun j h1 h2 => by
   have h1' : j < us.length := by simpa using h1
   have h2' : j < ws.length := by simpa using h2
   obtain ⟨x, ex, rx⟩ := r1.at h1'
   obtain ⟨y, ey, ry⟩ := r2.at h2'
   exact DEq.at I (hd j x y ex ey) (A := X.A.in1) (show X.A.units + 1 + n < cLine by omega) (by simpa using rx) (by simpa using ry)
  rw [jl, show (us.toArray.size == ws.toArray.size) = true from by simp; omega] at this
  exact this X.prog X.w X.xe _ fin
 ·obtain ⟨us, r1, p1, _⟩ := I.list ha
  obtain ⟨ws, r2, p2, _⟩ := I.list hb
  have l1 := r1.length
  have l2 := r2.length
  have := SeqAt.RcNeAt.lists (A := X.A) (s := s) (e := fun _ => true) p1.isList p2.isList Z6 Z1 fun j h1 h2 => by
   have h1' : j < us.length := by simpa using h1
   have h2' : j < ws.length := by simpa using h2
   obtain ⟨x, ex, rx⟩ := r1.at h1'
   obtain ⟨y, ey, ry⟩ := r2.at h2'
   exact DEq.at I (hd j x y ex ey) (A := X.A.in1) (show X.A.units + 1 + n < cLine by omega) (by simpa using rx) (by simpa using ry)
  rw [jl] at this
  exact this X.prog X.w X.xe _ fin
end
section
variable {X : Cx} {K : Frag}
theorem nJ {es : List Expr} {k : Nat} {t : TGs} {n : Nat} {pos : Pos} (hK : X.K = K) (hc : X.calm = true) (h : PGs X es t)
  (hn : (assignEach es X.env).length = n := by rfl) (hst : (assignEach es X.env).findIdx? (·.1) = none := by rfl) : PG X (.Tuple es k pos) (JM K n t) := by subst hK; exact HS hc h hn hst
end
section
variable {X : Cx} {K : Frag} {tg : Expr}
end
section
variable {X : Cx} {K : Frag}
theorem Em (hc : X.calm = true) : kE X (.builtin "any") (Ug X.K fun bs => bs.any id) := by
 intro pins s σ H xs us Q I r h
 obtain ⟨p, bs, rfl, hq, q⟩ := h
 obtain ⟨u, rfl, rx⟩ := vals1 r
 cases (show u = Value.ref p from rx)
 obtain ⟨its, rv, pl, hz⟩ := I.list hq
 have hlen := rv.length
 rw [length_map] at hlen
 have hne : p ≠ s.heap.objs.size := by
  obtain ⟨o, e, _⟩ := pl.isList
  exact ne_of_lt (Heap.lt_size e)
 refine call_any_walk (wpAny_pyIter_list pl.isList ?_)
 refine ⟨s.heap.objs.size, _, _, _, _, _, fun i => bs.getD i false, rfl, Walks.list (show X.A.in1.handled = none from I.ok.hd hc) s.heap.objs.size p hne its.toArray, ⟨⟨_, Heap.get?_push_size _ rfl, rfl, rfl⟩, ?_⟩, fun i v s' Q' E' hP hQ => ?_, fun h' tk kk => ?_⟩
 ·exact pl.isList.at fun o e => Heap.get?_push_of_some _ e
 ·have e := HW rv (by simpa using hP)
  subst e
  exact wpAny_truthy_bool hQ
 ·have e : (List.range its.toArray.size).any (fun i => bs.getD i false) = bs.any id := by rw [size_toArray, <- hlen]; exact range_any bs
  rw [e]
  refine ⟨.bl _, H, I.kept fun b o e => ?_, rfl, q⟩
  exact kk b o (fun z => absurd (Heap.lt_size e) (by rw [mem_singleton.mp z]; exact lt_irrefl _)) (Heap.get?_push_of_some _ e)
end
theorem bD {K : Frag} {a : Addr} {xs : List V} {tf : TT} {te : TE} {τ0 : St} {H : Hp} {Fin : List V -> Hp -> Prop} (p : V -> Bool) (hn : xs.length <= sizeLine) (hl : SqL K H a xs)
  (htf : ∀ x H' (Q : Bool -> Hp -> Prop), x ∈ xs -> au H H' -> (∀ H'', au H' H'' -> Q (p x) H'') -> tf (τ0.set 0 (some x)) H' Q)
  (hte : ∀ x H' (Q : VK), x ∈ xs -> au H H' -> (∀ H'', au H' H'' -> Q x H'') -> te (τ0.set 0 (some x)) H' Q)
  (hfin : ∀ H', au H H' -> Fin (xs.filter p) H') : oG (gq 0) tf te (Itl K a) τ0 H Fin := by
 refine ⟨fun i m τ ys H' => m = xs.length - i /\ i <= xs.length /\ ys = (xs.take i).filter p /\ au H H' /\ ∃ v, τ = τ0.set 0 v \/ τ = τ0, ⟨xs.length, rfl, zero_le _, rfl, au.refl _, none, .inr rfl⟩, ?_⟩
 rintro i m τ ys H' ⟨rfl, hi, rfl, sm, v, hτ⟩
 by_cases hlt : i < xs.length
 ·refine .inr ⟨⟨xs, xs[i], sm.seq hl, by simp [hlt]⟩, fun x H'' y => ?_⟩
  obtain ⟨e, y⟩ := y
  subst e
  have hx := y xs (sm.seq hl)
  have e2 : τ.set 0 (some x) = τ0.set 0 (some x) := by
   rcases hτ with rfl | rfl
   ·rw [set_set]
   ·rfl
  unfold gq
  rw [e2]
  have e3 : (xs.take (i + 1)).filter p = (xs.take i).filter p ++ (if p x = true then [x] else []) := by
   rw [List.take_add_one, hx, filter_append]
   congr 1
   show [x].filter p = _
   rw [filter_cons]
   rfl
  refine htf x H'' _ (mem_of_getElem? hx) sm fun H4 s4 => ?_
  cases hp : p x with
  | true =>
   rw [if_pos rfl]
   refine hte x H4 _ (mem_of_getElem? hx) (sm.trans s4) fun H5 s5 => ?_
   refine ⟨?_, xs.length - (i + 1), Z1, rfl, hlt, ?_, sm.trans (s4.trans s5), _, .inl rfl⟩
   ·have := length_filter_le p (xs.take i)
    rw [length_take] at this
    omega
   ·rw [e3, hp]; rfl
  | false =>
   rw [if_neg Z0]
   refine ⟨xs.length - (i + 1), Z1, rfl, hlt, ?_, sm.trans s4, _, .inl rfl⟩
   rw [e3, hp]; simp
 ·have e : i = xs.length := by omega
  subst e
  exact .inl ⟨⟨xs, sm.seq hl, le_refl _⟩, by have := hfin H' sm; rw [take_length]; exact this⟩
end L2
namespace Mine
open PySem PySem.Spec PyProof.Rows L2 PySem.Builtin PySem.Builtin.Str
inductive Thg where
 | num (m : Nat)
 | nms (c : Bool) (ys : List Str)
structure Trm where
 sg : Int
 th : Thg
def kindOf : Thg -> Str
 | .num _ => "number"
 | .nms c _ => if c = true then "call" else "path"
structure zg (ys : List Str) : Prop where
 lo : ys ≠ []
 hi : ys.length <= 4
 nm : ∀ y ∈ ys, cQ y
def Il : Thg -> Prop
 | .num m => m < 10 ^ 20
 | .nms _ ys => zg ys
structure Q7 (t : Trm) : Prop where
 sg : t.sg = 1 \/ t.sg = -1
 th : Il t.th
structure yt (ts : List Trm) : Prop where
 lo : ts ≠ []
 hi : ts.length <= 6
 ok : ∀ t ∈ ts, Q7 t
 hd : ∀ t, ts.head? = some t -> t.sg = 1
theorem zg.len {ys : List Str} (h : zg ys) : (dotted ys).length <= 36 := by
 have h1 := yf ys
 have h2 : (ys.map (·.length)).sum <= ys.length * 8 := uR fun y hy => (h.nm y hy).hi
 have := h.hi
 omega
end Mine
namespace L2
open PySem PySem.Spec PyProof.Rows
theorem lK {lo : Int} {n : Nat} {te : TE} {τ0 : St} {H : Hp} {Fin : List V -> Hp -> Prop} (R : Nat -> V -> Hp -> Prop) (hm : ∀ i v H' H'', R i v H' -> au H' H'' -> R i v H'') (hn : n <= sizeLine)
  (hte : ∀ (i : Nat) H' (Q : VK), i < n -> au H H' -> (∀ v H'', au H' H'' -> R i v H'' -> Q v H'') -> te (τ0.set 0 (some (.int (lo + i)))) H' Q)
  (hfin : ∀ ys H', au H H' -> ys.length = n -> (∀ (i : Nat) v, ys[i]? = some v -> R i v H') -> Fin ys H') : oG (gq 0) wO te (Itr lo n) τ0 H Fin := by
 refine ⟨fun i m τ ys H' => m = n - i /\ i <= n /\ ys.length = i /\ (∀ (j : Nat) v, ys[j]? = some v -> R j v H') /\ au H H' /\ ∃ v, τ = τ0.set 0 v \/ τ = τ0, ⟨n, rfl, zero_le _, rfl, fun j v h => by simp at h, au.refl _, none, .inr rfl⟩, ?_⟩
 rintro i m τ ys H' ⟨rfl, hi, hl, hr, sm, v, hτ⟩
 by_cases hlt : i < n
 ·refine .inr ⟨hlt, fun x H'' y => ?_⟩
  obtain ⟨e, y⟩ := y
  subst e y
  have e2 : τ.set 0 (some (V.int (lo + i))) = τ0.set 0 (some (V.int (lo + i))) := by
   rcases hτ with rfl | rfl
   ·rw [set_set]
   ·rfl
  unfold gq wO
  rw [e2]
  dsimp only
  rw [if_pos rfl]
  refine hte i H'' _ hlt sm fun v H4 s4 hv => ?_
  refine ⟨Z1, n - (i + 1), Z1, rfl, hlt, by rw [length_append, hl]; rfl, fun j u hj => ?_, sm.trans s4, _, .inl rfl⟩
  by_cases hji : j < ys.length
  ·rw [getElem?_append_left hji] at hj
   exact hm _ _ _ _ (hr j u hj) s4
  ·rw [getElem?_append_right Z1] at hj
   have hj0 : j - ys.length = 0 := by
    cases hh : j - ys.length with
    | zero => rfl
    | succ k => rw [hh] at hj; simp at hj
   rw [hj0] at hj
   have : j = i := by omega
   subst this
   have : v = u := by simpa using hj
   subst this
   exact hv
 ·have e : i = n := by omega
  subst e
  exact .inl ⟨le_refl _, hfin ys H' sm hl hr⟩
theorem gU {K : Frag} {a : Addr} {xs : List V} {te : TE} {τ0 : St} {H : Hp} {Fin : List V -> Hp -> Prop} (f : Nat -> V) (hn : xs.length <= sizeLine) (hl : SqL K H a xs)
  (hte : ∀ (i : Nat) x H' (Q : VK), xs[i]? = some x -> au H H' -> (∀ H'', au H' H'' -> Q (f i) H'') -> te (τ0.set 0 (some x)) H' Q)
  (hfin : ∀ H', au H H' -> Fin ((List.range xs.length).map f) H') : oG (gq 0) wO te (Itl K a) τ0 H Fin := by
 refine ⟨fun i m τ ys H' => m = xs.length - i /\ i <= xs.length /\ ys = (List.range i).map f /\ au H H' /\ ∃ v, τ = τ0.set 0 v \/ τ = τ0, ⟨xs.length, rfl, zero_le _, rfl, au.refl _, none, .inr rfl⟩, ?_⟩
 rintro i m τ ys H' ⟨rfl, hi, rfl, sm, v, hτ⟩
 by_cases hlt : i < xs.length
 ·refine .inr ⟨⟨xs, xs[i], sm.seq hl, by simp [hlt]⟩, fun x H'' y => ?_⟩
  obtain ⟨e, y⟩ := y
  subst e
  have hx := y xs (sm.seq hl)
  have e2 : τ.set 0 (some x) = τ0.set 0 (some x) := by
   rcases hτ with rfl | rfl
   ·rw [set_set]
   ·rfl
  unfold gq wO
  rw [e2]
  dsimp only
  rw [if_pos rfl]
  refine hte i x H'' _ hx sm fun H4 s4 => ?_
  exact ⟨by rw [length_map, length_range]; omega, xs.length - (i + 1), Z1, rfl, hlt, by rw [List.range_succ, map_append]; rfl, sm.trans s4, _, .inl rfl⟩
 ·have e : i = xs.length := by omega
  subst e
  exact .inl ⟨⟨xs, sm.seq hl, le_refl _⟩, hfin H' sm⟩
end L2
namespace Mine
open PySem PySem.Spec PyProof.Rows L2 PySem.Builtin PySem.Builtin.Str
def Gv (H : Hp) (x : V) : Thg -> Prop
 | .num m => x = .int ((m : Nat) : Int)
 | .nms _ ys => ∃ q, x = .ref q /\ H q = some (.tup (ys.map V.str))
def yE (H : Hp) (v : V) (t : Trm) : Prop := ∃ p x, v = .ref p /\ H p = some (.tup [.int t.sg, .str (kindOf t.th), x]) /\ Gv H x t.th
def kZ (H : Hp) (l : Addr) (ts : List Trm) : Prop := ∃ xs, H l = some (.lst xs) /\ xs.length = ts.length /\ ∀ (i : Nat) x, xs[i]? = some x -> ∃ t, ts[i]? = some t /\ yE H x t
theorem Gv.same {H H' : Hp} {x : V} {th : Thg} (h : Gv H x th) (s : au H H') : Gv H' x th := by
 cases th with
 | num m => exact h
 | nms c ys => obtain ⟨q, e, hq⟩ := h; exact ⟨q, e, s _ _ hq⟩
theorem yE.same {H H' : Hp} {v : V} {t : Trm} (h : yE H v t) (s : au H H') : yE H' v t := by
 obtain ⟨p, x, e, hp, hx⟩ := h
 exact ⟨p, x, e, s _ _ hp, hx.same s⟩
theorem kZ.same {H H' : Hp} {l : Addr} {ts : List Trm} (h : kZ H l ts) (s : au H H') : kZ H' l ts := by
 obtain ⟨xs, hl, hn, hx⟩ := h
 refine ⟨xs, s _ _ hl, hn, fun i x e => ?_⟩
 obtain ⟨t, ht, tm⟩ := hx i x e
 exact ⟨t, ht, tm.same s⟩
theorem gw {α β : Type} (P : Nat -> α -> β -> Prop) : ∀ (ys : List α) (k : Nat), (∀ (i : Nat) v, ys[i]? = some v -> ∃ t, P (k + i) v t) -> ∃ ts : List β, ts.length = ys.length /\ ∀ (i : Nat) v, ys[i]? = some v -> ∃ t, ts[i]? = some t /\ P (k + i) v t
 | [], k, _ => ⟨[], rfl, fun i v h => by simp at h⟩
 | y :: ys, k, h => by
  obtain ⟨t0, h0⟩ := h 0 y rfl
  obtain ⟨ts, hl, ht⟩ := gw P ys (k + 1) fun i v e => by
   have := h (i + 1) v (by simpa using e)
   rwa [show k + (i + 1) = k + 1 + i from by omega] at this
  refine ⟨t0 :: ts, by simp [hl], fun i v e => ?_⟩
  cases i with
  | zero => cases e; exact ⟨t0, rfl, h0⟩
  | succ i =>
   obtain ⟨t, e2, p⟩ := ht i v (by simpa using e)
   refine ⟨t, by simpa using e2, ?_⟩
   rwa [show k + (i + 1) = k + 1 + i from by omega]
end Mine
namespace L2
open PySem PySem.Spec PyProof.Rows PySem.W
section
variable {X : Cx} {x : Str} {pos : Pos}
theorem Uc {y : Addr} (h : X.mg x = some (.ref y)) (hg : Gl X x := by rfl) (hd : (x == ("__debug__" : Str)) = false := by decide) : PE X (.Name x pos) (tC (.ref y)) := zq hg h rfl hd
def Ib (K : Frag) : List V -> Hp -> VK -> Prop := fun xs H Q => ∃ x t c b, xs = [x, .ref c] /\ mC K H x t /\ kitOne K t (.ref c) = some b /\ Q (.bl b) H
theorem yG : kE X (.builtin "isinstance") (Ib X.K) := by
 intro pins s σ H xs us Q I r h
 obtain ⟨x, t, c, b, rfl, ty, e, q⟩ := h
 obtain ⟨u, u2, rfl, rx, ry⟩ := vals2 r
 cases (show u2 = Value.ref c from ry)
 exact uh I rx ty e fun tk => ⟨.bl b, H, I.tok tk, rfl, q⟩
end
structure RCl (K : Frag) (C : Addr) : Prop where
 cl : Cls K C
 ha : findIn K (.ref C) "__class__" = some (some (.builtin "object.__class__"))
 hn : specialIn K (.builtin "object.__class__") "__get__" = some (some (.builtin "getset_descriptor.__get__"))
 htk : takesIn K (.builtin "object.__class__") = some true
 hm : mroIn K C (.type "object") = some true
theorem RCl.ty {K : Frag} {C a dx : Addr} {H : Hp} {fs : List (Str × V)} (c : RCl K C) (e : H a = some (.ins C dx fs)) : mC K H (.ref a) (.ref C) := .ins e c.cl c.ha c.hn c.htk c.hm
structure MkN (K : Frag) (C : Addr) : Prop where
 makes : makesIn K C = true
 init : findIn K (.ref C) "__init__" = some (some (.builtin "object.__init__"))
 kp : keepIn K (.ref C) = true
section
variable {X : Cx} {C : Addr} {x : Str} {p pos : Pos}
end
section
variable {X : Cx} {C f : Addr} {k : Nat} {fd : FuncData} {ps : List Str} {sp : Sp} {x : Str} {p pos : Pos} {e : Expr} {es : List Expr} {t : TA}
theorem lg (M : Mk X.K C f) (b : Binds X.K fd ps []) (G : aM X.prog X.w X.K X.mg X.base CX0 k f fd ps sp) (hr : aP (k + 1) X.A) (hm : X.mg x = some (.ref C)) (ha : PA X (e :: es) t) (hg : Gl X x := by rfl)
  (hdb : (x == ("__debug__" : Str)) = false := by decide) (he : starEach (e :: es) X.env = (false, eval e X.env) :: starEach es X.env := by rfl) (hpl : (backTo pos (starEach es X.env)).any (·.1) = false := by rfl) :
  PE X (.Call (.Name x p) (e :: es) [] pos) (Hf C sp [] E0 t) := GP M G hr hg hm b .nil qP ha hdb he hpl
end
def VM (P : Program) (w : World) (K : Frag) (mg : Str -> Option Value) (base : Heap) (k : Nat) (C : Addr) (m : Str) (sp : Sp) : Prop := ∃ f fd ps, Meth K C m f /\ aM P w K mg base CX0 k f fd ps sp /\ Binds K fd ps []
def MV (P : Program) (w : World) (K : Frag) (mg : Str -> Option Value) (base : Heap) (k : Nat) (m : Str) (x : V) (H : Hp) (Q : VK) : Prop :=
 ∃ a C dx fs sp, x = .ref a /\ H a = some (.ins C dx fs) /\ fs.lookup m = none /\ Cls K C /\ VM P w K mg base k C m sp /\ sp [x] H Q E0
def Jy (P : Program) (w : World) (K : Frag) (mg : Str -> Option Value) (base : Heap) (k : Nat) (m : Str) (ta : TE) : TE := fun σ H Q => ta σ H fun x H1 => MV P w K mg base k m x H1 Q
section
variable {X : Cx} {P : Program} {w : World} {K : Frag} {mg : Str -> Option Value} {base : Heap} {k : Nat} {m : Str} {o : Expr} {ta : TE} {pos apos : Pos}
theorem wN {pl : Sem Bool} (h1 : X.prog = P) (h2 : X.w = w) (h3 : X.K = K) (h4 : X.mg = mg) (h5 : X.base = base) (hr : aP k X.A) (he : PE X o ta)
  (ht : eval (.Call (.Attribute o m apos) [] [] pos) X.env = (do
   let ov <- eval o X.env
   standAt apos.atName
   let (f, first) <- holding [ov] (getMethod ov m pl)
   callWith pos f first (backTo pos (starEach [] X.env)) (backToKw pos (keywordEach [] X.env))) := by rfl) :
  PE X (.Call (.Attribute o m apos) [] [] pos) (Jy P w K mg base k m ta) := by
 subst h1 h2 h3 h4 h5
 intro pins s σ H Q I h
 refine methodCall_KW (pl := pl) (thn (he pins s σ H _ I h) fun u s1 hz => ?_) ht
 obtain ⟨x, H1, I1, rx, a, C, dx, fs, sp, ex, ea, l, c, ⟨f, fd, ps, hm, F, hb⟩, q⟩ := hz
 subst ex
 obtain rfl : u = Value.ref a := rx
 refine mO I1 ea c hm l ?_
 exact PySem.W.callWith_K0 (first := [.ref a]) I1.kIn hm.kp (yC (us := [.ref a]) (vs := [.ref a]) (dvs := []) (ds := []) F hr hb .nil qP I1 (.cons rfl .nil) q)
end
section
variable {X : Cx} {o value : Expr} {f : Str} {pos pos' : Pos} {ta tv : TE}
theorem dG (ha : PE X o ta) (hv : PE X value tv) (hs : swapsWith value (some (.Attribute o f pos')) pos.line X.env = pure false := by rfl) : QS X (.Assign [.Attribute o f pos'] value pos) (Pz X.K ta tv f) := ⟨Hv ha hv hs⟩
end
structure MAt (K : Frag) (m q : Str) (st : Stmt) (ps : List Str) (f : Addr) (fd : FuncData) : Prop where
 F : Fun K m q st f fd
 b : Binds K fd ps []
theorem rdF {K : Frag} {H : Hp} {a C dx : Addr} {fs : List (Str × V)} {v : V} {f : Str} {q : V -> Prop} (ha : H a = some (.ins C dx fs)) (c : Cls K C) (n : cF K C f) (l : fs.lookup f = some v) (h : q v) :
  ∃ a' C' dx' fs' v', V.ref a = .ref a' /\ H a' = some (.ins C' dx' fs') /\ Cls K C' /\ cF K C' f /\ fs'.lookup f = some v' /\ q v' := ⟨a, C, dx, fs, v, rfl, ha, c, n, l, h⟩
theorem pD {p : Nat -> Prop} (h0 : p 0) (h1 : p 1) (h2 : p 2) (h3 : p 3) (h4 : p 4) (h5 : p 5) (h6 : p 6) (i : Nat) (h : i <= 6) : p i := by
 cases i with
 | zero => exact h0
 | succ i => cases i with
  | zero => exact h1
  | succ i => cases i with
   | zero => exact h2
   | succ i => cases i with
    | zero => exact h3
    | succ i => cases i with
     | zero => exact h4
     | succ i => cases i with
      | zero => exact h5
      | succ i => cases i with
       | zero => exact h6
       | succ i => exact absurd h Z1
theorem ji {H : Hp} {p b : Addr} {o : HO} (h : upd H p o b = none) : H b = none /\ b ≠ p := by
 unfold upd at h
 split at h
 ·cases h
 ·exact ⟨h, ‹_›⟩
theorem lkP {f : Str} {y : V} {fs : List (Str × V)} : (jm f y fs).lookup f = some y := by rw [iM, if_pos rfl]
theorem lkN {f g : Str} {y : V} {fs : List (Str × V)} (h : ¬ g = f) : (jm f y fs).lookup g = fs.lookup g := by rw [iM, if_neg h]
theorem xq {f : Str} {y : V} {fs : List (Str × V)} {n : Nat} (h : fs.length < n) : (jm f y fs).length < n + 1 := by have := lJ f y fs; omega
def SameBut (x : Addr) (H H' : Hp) : Prop := ∀ b o, H b = some o -> b ≠ x -> H' b = some o
theorem sb3 {H : Hp} {x l : Addr} {o1 o2 o3 : HO} (hl : H l = none) : SameBut x H (upd (upd (upd H x o1) l o2) x o3) := fun b o e hb => by
 rw [aF hb, aF (aD e hl), aF hb]; exact e
theorem sb2 {H : Hp} {x l : Addr} {o1 o2 : HO} (hl : H l = none) : SameBut x H (upd (upd H l o1) x o2) := fun b o e hb => by
 rw [aF hb, aF (aD e hl)]; exact e
theorem aN {K : Frag} {C D : Addr} {b : Bool} (m : mroIn K C (.ref D) = some b) (sD : mroIn K D (.ref D) = some true) (o : mroIn K D (.type "object") = some true) (ty : typeIn K (.ref D) = some (.type "type")) : kitOne K (.ref C) (.ref D) = some b := by
 unfold kitOne
 by_cases e : (Value.ref C == Value.ref D) = true
 ·rw [if_pos e]
  have e' : C = D := by cases eq_of_beq e; rfl
  subst e'
  rw [m] at sD; exact sD.symm
 ·rw [if_neg e]
  cases h : clsIn K D with
  | none => unfold mroIn at o; rw [h] at o; cases o
  | some cd =>
   show (if ((clsIn K D).isSome && typeIn K (.ref D) == some (.type "type")) = true then mroIn K C (.ref D) else none) = _
   rw [h, ty, if_pos Z2, m]
theorem m8 {K : Frag} {a : Addr} {xs : List V} {g : TG} {te : TE} {τ0 : St} {H : Hp} {Fin : List V -> Hp -> Prop} (S : St -> Prop) (R : Nat -> V -> Hp -> Prop) (hm : ∀ i v H' H'', R i v H' -> au H' H'' -> R i v H'') (hn : xs.length <= sizeLine) (hl : SqL K H a xs) (h0 : S τ0)
  (hte : ∀ (i : Nat) x τ H' (Q : St -> V -> Hp -> Prop), xs[i]? = some x -> au H H' -> S τ -> (∀ τ2 v H'', S τ2 -> au H' H'' -> R i v H'' -> Q τ2 v H'') -> g x τ H' fun τ2 H2 => te τ2 H2 fun y H4 => Q τ2 y H4)
  (hfin : ∀ ys H', au H H' -> ys.length = xs.length -> (∀ (i : Nat) v, ys[i]? = some v -> R i v H') -> Fin ys H') : oG g wO te (Itl K a) τ0 H Fin := by
 refine ⟨fun i m τ ys H' => m = xs.length - i /\ i <= xs.length /\ ys.length = i /\ (∀ (j : Nat) v, ys[j]? = some v -> R j v H') /\ au H H' /\ S τ, ⟨xs.length, rfl, zero_le _, rfl, fun j v h => by simp at h, au.refl _, h0⟩, ?_⟩
 rintro i m τ ys H' ⟨rfl, hi, hyl, hr, sm, hS⟩
 by_cases hlt : i < xs.length
 ·refine .inr ⟨⟨xs, xs[i], sm.seq hl, by simp [hlt]⟩, fun x H'' y => ?_⟩
  obtain ⟨e, y⟩ := y
  subst e
  have hx := y xs (sm.seq hl)
  have key := hte i x τ H'' (fun τ2 y H4 => ys.length < sizeLine /\ ∃ m', m' < xs.length - i /\ (m' = xs.length - (i + 1) /\ i + 1 <= xs.length /\ (ys ++ [y]).length = i + 1 /\ (∀ (j : Nat) v, (ys ++ [y])[j]? = some v -> R j v H4) /\ au H H4 /\ S τ2)) hx sm hS fun τ2 v H4 s2 s4 hv => by
   refine ⟨Z1, xs.length - (i + 1), Z1, rfl, hlt, by rw [length_append, hyl]; rfl, fun j u hj => ?_, sm.trans s4, s2⟩
   by_cases hji : j < ys.length
   ·rw [getElem?_append_left hji] at hj
    exact hm _ _ _ _ (hr j u hj) s4
   ·rw [getElem?_append_right Z1] at hj
    have hj0 : j - ys.length = 0 := by
     cases hh : j - ys.length with
     | zero => rfl
     | succ k => rw [hh] at hj; simp at hj
    rw [hj0] at hj
    have : j = i := by omega
    subst this
    have : v = u := by simpa using hj
    subst this
    exact hv
  exact key
 ·have e : i = xs.length := by omega
  subst e
  exact .inl ⟨⟨xs, sm.seq hl, le_refl _⟩, hfin ys H' sm hyl hr⟩
theorem len0 {α : Type} {us : List α} (h : us.length = 0) : us = [] := List.length_eq_zero_iff.mp h
theorem zM {α : Type} {us : List α} {n : Nat} (h : us.length = n + 1) : ∃ a r, us = a :: r /\ r.length = n := by
 cases us with
 | nil => cases h
 | cons a r => exact ⟨a, r, rfl, Nat.succ.inj h⟩
theorem M7 {α : Type} {us : List α} (h : us.length = 1) : ∃ a, us = [a] := by
 obtain ⟨a, r, rfl, k⟩ := zM h
 exact ⟨a, by rw [len0 k]⟩
theorem Kr {α : Type} {us : List α} (h : us.length = 2) : ∃ a b, us = [a, b] := by
 obtain ⟨a, r, rfl, k⟩ := zM h
 obtain ⟨b, rfl⟩ := M7 k
 exact ⟨a, b, rfl⟩
theorem Q3 {α : Type} {us : List α} (h : us.length = 3) : ∃ a b c, us = [a, b, c] := by
 obtain ⟨a, r, rfl, k⟩ := zM h
 obtain ⟨b, c, rfl⟩ := Kr k
 exact ⟨a, b, c, rfl⟩
theorem Vh {α : Type} {us : List α} (h : us.length = 4) : ∃ a b c d, us = [a, b, c, d] := by
 obtain ⟨a, r, rfl, k⟩ := zM h
 obtain ⟨b, c, d, rfl⟩ := Q3 k
 exact ⟨a, b, c, d, rfl⟩
end L2
namespace Mine
open PySem PySem.Spec PyProof.Rows L2 PySem.Builtin PySem.Builtin.Str
structure cB where
 so : Nat
 nm : Str
 ad : Str
 wd : Str
 ts : List Trm
def fG : Nat -> Str
 | 0 => "let"
 | 1 => "deed"
 | 2 => "draw"
 | 3 => "late"
 | 4 => "take"
 | _ => "need"
structure cO (ys : List Str) : Prop where
 lo : ys ≠ []
 hi : ys.length <= 3
 nm : ∀ y ∈ ys, cQ y
structure GoodR (r : cB) : Prop where
 so : r.so <= 5
 nm : r.so < 5 -> cQ r.nm
 no : r.so = 5 -> r.nm = ""
 ad : ∃ ys, cO ys /\ r.ad = dotted ys
 wd : cQ r.wd
 ts : yt r.ts
 dd : r.so = 1 -> ∀ t ∈ r.ts, ∀ ys, t.th ≠ .nms true ys
theorem cO.len {ys : List Str} (h : cO ys) : (dotted ys).length <= 36 := zg.len ⟨h.lo, le_trans h.hi Z0, h.nm⟩
theorem GoodR.nl {r : cB} (h : GoodR r) : r.nm.length <= 8 := by
 rcases lt_or_ge r.so 5 with k | k
 ·exact (h.nm k).hi
 ·rw [h.no (by have := h.so; omega)]; decide
def cZ (r : cB) : List Str := if r.so = 2 \/ r.so = 3 \/ r.so = 4 then [r.ad] else []
theorem abS {a b : Str} {m n : Nat} (ha : a.length <= m) (hb : b.length <= n) (h : m + n <= 1000 := by decide) : a.length + b.length <= sizeLine := le_trans (Nat.add_le_add ha hb) (le_trans h dC)
theorem alS {a b : Str} {m n : Nat} (ha : a.length <= m) (hb : b.length <= n) : (a ++ b).length <= m + n := by rw [uY]; exact Nat.add_le_add ha hb
structure FW (H : Hp) (fs : List (Str × V)) (l : Addr) (r : cB) : Prop where
 nm : r.so < 5 -> fs.lookup ("name" : Str) = some (.str r.nm)
 tm : r.so = 0 \/ r.so = 1 \/ r.so = 5 -> fs.lookup ("terms" : Str) = some (.ref l) /\ kZ H l r.ts
 ad : r.so = 2 \/ r.so = 3 \/ r.so = 4 -> fs.lookup ("address" : Str) = some (.str r.ad)
 wd : r.so = 4 -> fs.lookup ("word" : Str) = some (.str r.wd)
 nb : fs.lookup ("binds" : Str) = none
 na : fs.lookup ("asked" : Str) = none
 ns : fs.lookup ("said" : Str) = none
def dJ (C : Nat -> Addr) (H : Hp) (a l : Addr) (r : cB) : Prop := ∃ dx fs, H a = some (.ins (C r.so) dx fs) /\ FW H fs l r
theorem FW.same {H H' : Hp} {fs : List (Str × V)} {l : Addr} {r : cB} (h : FW H fs l r) (s : au H H') : FW H' fs l r :=
 ⟨h.nm, fun k => ⟨(h.tm k).1, (h.tm k).2.same s⟩, h.ad, h.wd, h.nb, h.na, h.ns⟩
theorem dJ.same {C : Nat -> Addr} {H H' : Hp} {a l : Addr} {r : cB} (h : dJ C H a l r) (s : au H H') : dJ C H' a l r := by
 obtain ⟨dx, fs, e, f⟩ := h
 exact ⟨dx, fs, s _ _ e, f.same s⟩
theorem yE.but {H H' : Hp} {v : V} {t : Trm} {x C dx : Addr} {fs : List (Str × V)} (h : yE H v t) (hx : H x = some (.ins C dx fs)) (s : SameBut x H H') : yE H' v t := by
 obtain ⟨p, y, e, hp, hy⟩ := h
 refine ⟨p, y, e, s _ _ hp (kI hp hx Z7), ?_⟩
 cases hth : t.th with
 | num m => rw [hth] at hy; exact hy
 | nms c zs =>
  rw [hth] at hy
  obtain ⟨q, e, hq⟩ := hy
  exact ⟨q, e, s _ _ hq (kI hq hx Z7)⟩
def pX (i j : Nat) : Bool := decide (i = j) || decide (j = 6)
theorem DN {i j : Nat} (hi : i <= 5) (hj : j <= 5) : decide (V.str (fG i) = V.str (fG j)) = pX i j := by
 have k : ∀ i j : Fin 6, decide (V.str (fG i.val) = V.str (fG j.val)) = pX i.val j.val := by decide +kernel
 exact k ⟨i, Z1⟩ ⟨j, Z1⟩
end Mine
namespace L2
open PySem PySem.Spec PyProof.Rows PySem.W
section
variable {X : Cx} {pos : Pos} {t : TS}
end
end L2
namespace Mine
open PySem PySem.Spec PyProof.Rows L2 PySem.Builtin PySem.Builtin.Str
end Mine
namespace En
open PySem PySem.Spec PyProof.Rows
section
variable {prog : Program} {w : World} {A : Around} {E : Value -> Shared -> Prop} {s : Shared}
theorem next_item {e j l : Addr} {i : Nat} {k : Int} {its : Array Value} {x old : Value} {Q : Option Value -> Shared -> Prop}
  (q1 : IsEnum s.heap e j k old) (q2 : s.heap.IsListIter j l i) (q3 : s.heap.IsList l its) (q4 : its[i]? = some x) (ne : e ≠ j)
  (kQ : ∀ h', IsEnumOut h' e j (k + 1) x s.heap.objs.size -> h'.IsListIter j l (i + 1) -> h'.get? s.heap.objs.size = some { cls := .type "tuple", data := .seq #[.int k s.toks, x] } ->
   (∀ b o, b ≠ e -> b ≠ j -> s.heap.get? b = some o -> h'.get? b = some o) -> Q (some (.ref s.heap.objs.size)) { s with heap := h', toks := s.toks + 1 }) :
  wpAny (model prog w) A (pyNext (.ref e)) Q E s := by
 have ty : s.TypeIs (.ref e) "enumerate" := ⟨_, q1, rfl⟩
 unfold pyNext
 refine wpAny_bind (wpAny_attempt (wpAny_callSpecial?_slot (name := Str.ofString "__next__") ty F.slot_enumerate_next (wpAny_call_entry F.slot_enumerate_next ty F.entry_enumerate_next ?_ (F.args_enumerate_next_1 _))))
 obtain ⟨hp, g, d, tk, os⟩ := s
 show wpAny _ _ (field (.ref e) 2 >>= _) _ _ _
 refine wpAny_bind (wpAny_field q1 rfl (x := .ref j) rfl (wpAny_bind (wpAny_nextOf_list_item q2 q3 q4 fun h1 r1 z1 => ?_)))
 replace z1 : Heap.SameBut j hp h1 := z1
 have a1 : IsEnum h1 e j k old := (z1.2 e ne).trans q1
 show wpAny _ _ (field (.ref e) 3 >>= _) _ _ ⟨h1, g, d, tk, os⟩
 refine wpAny_bind (wpAny_field a1 rfl (x := rawInt k) rfl ?_)
 show wpAny _ _ (field (.ref e) 4 >>= _) _ _ ⟨h1, g, d, tk, os⟩
 refine wpAny_bind (wpAny_field a1 rfl (x := .none) rfl ?_)
 show wpAny _ _ (mkInt k >>= _) _ _ ⟨h1, g, d, tk, os⟩
 refine wpAny_bind (wpAny_mkInt ?_)
 show wpAny _ _ (setField (.ref e) 3 (rawInt (k + 1)) >>= _) _ _ ⟨h1, g, d, tk + 1, os⟩
 refine wpAny_bind (wpAny_setField_rec a1 Z2 fun h2 a2 z2 => ?_)
 replace z2 : Heap.SameBut e h1 h2 := z2
 replace a2 : IsEnum h2 e j (k + 1) old := a2
 show wpAny _ _ (setField (.ref e) 4 .none >>= _) _ _ ⟨h2, g, d, tk + 1, os⟩
 refine wpAny_bind (wpAny_setField_rec a2 Z2 fun h3 a3 z3 => ?_)
 replace z3 : Heap.SameBut e h2 h3 := z3
 replace a3 : IsEnum h3 e j (k + 1) old := a3
 show wpAny _ _ (newTuple [.int k tk, x] >>= _) _ _ ⟨h3, g, d, tk + 1, os⟩
 refine wpAny_bind (wpAny_newTuple ?_)
 have a4 : IsEnum (h3.push { cls := .type "tuple", data := .seq #[.int k tk, x] }) e j (k + 1) old := Heap.get?_push_of_some _ a3
 generalize hh : h3.push { cls := .type "tuple", data := .seq #[.int k tk, x] } = h4 at a4
 have sz : h3.objs.size = hp.objs.size := by rw [z3.1, z2.1, z1.1]
 have el : e < hp.objs.size := Heap.lt_size q1
 have t4 : h4.get? hp.objs.size = some { cls := .type "tuple", data := .seq #[.int k tk, x] } := by rw [<- hh, <- sz]; exact Heap.get?_push_size _ rfl
 have k4 : ∀ b o, b ≠ e -> b ≠ j -> hp.get? b = some o -> h4.get? b = some o := fun b o be bi hb => by
  rw [<- hh]; exact Heap.get?_push_of_some _ (z3.extBut b o be (z2.extBut b o be (z1.extBut b o bi hb)))
 have r4 : h4.IsListIter j l (i + 1) := by
  rw [<- hh]; obtain ⟨o, ho, r⟩ := (r1.extBut z2.extBut (Ne.symm ne)).extBut z3.extBut (Ne.symm ne); exact ⟨o, Heap.get?_push_of_some _ ho, r⟩
 show wpAny _ _ (Builtin.SmallTypes.ownedTupleIsFree (.ref e) >>= _) _ _ ⟨h4, g, d, tk + 1, os⟩
 rw [sz]
 clear hh a3 z3 a2 z2 a1 z1 r1 sz h3 h2 h1
 refine wpAny_bind ?_
 unfold Builtin.SmallTypes.ownedTupleIsFree
 refine wpAny_bind (wpAny_field a4 rfl (x := .none) rfl (wpAny_pure ?_))
 simp only [if_true]
 refine wpAny_bind (wpAny_rule (wpAny_bind (wpAny_field a4 rfl (x := old) rfl (wpAny_bind (wpAny_setField_rec a4 Z2 fun h5 a5 z5 => ?_)))))
 replace z5 : Heap.SameBut e h4 h5 := z5
 replace a5 : IsEnum h5 e j (k + 1) x := a5
 show wpAny _ _ (Builtin.SmallTypes.ownedTupleHandOut (.ref e) (.ref hp.objs.size) >>= _) _ _ ⟨h5, g, d, tk + 1, os⟩
 refine wpAny_bind ?_
 unfold Builtin.SmallTypes.ownedTupleHandOut
 refine wpAny_bind (wpAny_setField_rec a5 Z2 fun h6 a6 z6 => ?_)
 replace z6 : Heap.SameBut e h5 h6 := z6
 replace a6 : IsEnumOut h6 e j (k + 1) x hp.objs.size := a6
 refine wpAny_setField_rec a6 Z2 fun h7 a7 z7 => ?_
 replace z7 : Heap.SameBut e h6 h7 := z7
 replace a7 : IsEnumOut h7 e j (k + 1) x hp.objs.size := a7
 refine wpAny_bind (wpAny_letGo (wpAny_pure ⟨_, rfl, wpAny_pure (kQ h7 a7 ?_ ?_ ?_)⟩))
 ·exact ((r4.extBut z5.extBut (Ne.symm ne)).extBut z6.extBut (Ne.symm ne)).extBut z7.extBut (Ne.symm ne)
 ·exact z7.extBut _ _ (ne_of_gt el) (z6.extBut _ _ (ne_of_gt el) (z5.extBut _ _ (ne_of_gt el) t4))
 ·exact fun b o be bi hb => z7.extBut b o be (z6.extBut b o be (z5.extBut b o be (k4 b o be bi hb)))
theorem next_end {e j l : Addr} {i : Nat} {k : Int} {its : Array Value} {old : Value} {Q : Option Value -> Shared -> Prop} (hh : A.handled = none)
  (q1 : IsEnum s.heap e j k old) (q2 : s.heap.IsListIter j l i) (q3 : s.heap.IsList l its) (q4 : its[i]? = none)
  (kQ : ∀ h', Heap.ExtBut j s.heap h' -> Q none { s with heap := h' }) : wpAny (model prog w) A (pyNext (.ref e)) Q E s := by
 have ty : s.TypeIs (.ref e) "enumerate" := ⟨_, q1, rfl⟩
 unfold pyNext
 refine wpAny_bind (wpAny_attempt (wpAny_callSpecial?_slot (name := Str.ofString "__next__") ty F.slot_enumerate_next (wpAny_call_entry F.slot_enumerate_next ty F.entry_enumerate_next ?_ (F.args_enumerate_next_1 _))))
 show wpAny _ _ (field (.ref e) 2 >>= _) _ _ _
 refine wpAny_bind (wpAny_field q1 rfl (x := .ref j) rfl (wpAny_bind (wpAny_nextOf_list_end hh q2 q3 q4 fun h' x hx ho => ?_)))
 obtain ⟨o, ho, hc⟩ := ho
 exact wpAny_bind (wpAny_isInstance (T := "StopIteration") (b := true) ⟨o, ho, hc⟩ isSubtype_stop (wpAny_pure (kQ _ hx)))
end
end En
namespace L2
open PySem PySem.Spec PyProof.Rows
def Ite (K : Frag) (a : Addr) (k : Int) : It :=
 ⟨fun i H => ∃ xs x, SqL K H a xs /\ xs[i]? = some x, fun i H v H' => ∃ p x, v = .ref p /\ H p = none /\ (∀ xs, SqL K H a xs -> xs[i]? = some x) /\ H' = upd H p (.tup [.int (k + i), x]), fun i H => ∃ xs, SqL K H a xs /\ xs.length <= i⟩
theorem Ah {P : Program} {w : World} {K : Frag} {elts : List Expr} {x1 : Nat} {tpos : Pos} (a e j : Addr) (k : Int) (ne : e ≠ j) :
  Turn P w K (.Tuple elts x1 tpos) (Ite K a k) [e, j] e (fun i h => (∃ old, IsEnum h e j (k + i) old) /\ h.IsListIter j a i) where
 mem := .head _
 obj := fun i h st c hc => by
  obtain ⟨⟨old, hz⟩, h1⟩ := st
  cases hc with
  | head => exact ⟨_, hz, fun v z => by cases z⟩
  | tail _ hc => cases hc with
   | head => obtain ⟨o, e, _, d⟩ := h1; exact ⟨o, e, fun v z => by rw [d] at z; cases z⟩
   | tail _ hc => cases hc
 keep := fun i h h' st k => by
  obtain ⟨⟨old, hz⟩, h1⟩ := st
  exact ⟨⟨old, k e (.head _) _ hz⟩, h1.at fun o e => k j (.tail _ (.head _)) o e⟩
 item := by
  intro X hP hw hK hc i pins s σ H E I hf st hg
  subst hP hw hK
  obtain ⟨xs, x, hq, hx⟩ := hg
  obtain ⟨⟨old, hz⟩, h1⟩ := st
  obtain ⟨us, rv, p, hsz⟩ := I.list hq
  obtain ⟨u, hu, ru⟩ := rv.get hx
  have lt : ∀ {c o}, s.heap.get? c = some o -> c ≠ s.heap.objs.size := fun e => ne_of_lt (Heap.lt_size e)
  refine En.next_item hz h1 p.isList (x := u) (by simpa using hu) ne fun h' a1 a2 a3 hk => ?_
  refine ⟨_, rfl, wpAny_letOwnedTupleGo_enum a1 fun h'' hz' hs' => ?_⟩
  have hfr : H s.heap.objs.size = none := I.hok.fresh (le_refl _)
  have hT : h''.get? s.heap.objs.size = some { cls := .type "tuple", data := .seq #[.int (k + i) s.toks, u] } := (hs'.2 _ (Ne.symm (lt hz))).trans a3
  have kk : ∀ c o, c ≠ e -> c ≠ j -> s.heap.get? c = some o -> h''.get? c = some o := fun c o q1 q2 e' => (hs'.2 c q1).trans (hk c o q1 q2 e')
  have fe := hf e (.head _)
  have fj := hf j (.tail _ (.head _))
  have hch : ∀ c, c ∉ [e, j] -> c ≠ e /\ c ≠ j := fun c hc => ⟨fun z => hc (z ▸ .head _), fun z => hc (z ▸ .tail _ (.head _))⟩
  have trk : ∀ c o, H c = some o -> c ≠ e /\ c ≠ j := fun c o q => ⟨(fun z => by rw [z, fe.1] at q; cases q), (fun z => by rw [z, fj.1] at q; cases q)⟩
  have I1 : Inv X pins σ (upd H s.heap.objs.size (.tup [.int (k + i), x])) { s with heap := h'', toks := s.toks + 1 } := by
   refine I.step (g' := s.gens) (d' := s.drawn) (t' := s.toks + 1) (ch := [e, j]) (fun c hc => ?_) (fun c o _ _ hc e' _ => ?_) (fun c o _ _ hc e' _ => ?_) (fun c o hc e' n => ?_) (fun c o hc e' => ?_) (fun c q e' => ?_) (fun c o q e' => ?_) (fun c q e' => ?_) (fun m hm => ?_) (fun c o e' => ?_) I.bare
   ·cases hc with
    | head => exact ⟨fe.2.2.2.1, fe.2.1, fe.2.2.2.2.1, fe.2.2.2.2.2⟩
    | tail _ hc => cases hc with
     | head => exact ⟨fj.2.2.2.1, fj.2.1, fj.2.2.2.2.1, fj.2.2.2.2.2⟩
     | tail _ hc => cases hc
   ·exact kk c o (hch c hc).1 (hch c hc).2 e'
   ·exact ⟨o.slots, kk c o (hch c hc).1 (hch c hc).2 e'⟩
   ·rw [aF (lt e')]; exact n
   ·exact ⟨o, kk c o (hch c hc).1 (hch c hc).2 e'⟩
   ·rw [aF (aD e' hfr)]; exact e'
   ·rw [aF (aD e' hfr)]; exact e'
   ·exact ⟨#[], by rw [aF (aD e' hfr), e']; simp⟩
   ·obtain ⟨o, es, ep, ho, r⟩ := hm
    exact ⟨o, es, ep, kk _ o (Ne.symm fe.2.1) (Ne.symm fj.2.1) ho, r⟩
   ·by_cases hcT : c = s.heap.objs.size
    ·subst hcT
     rw [ak] at e'
     cases e'
     exact ⟨by show 2 <= sizeLine; decide, [.int (k + i) s.toks, u], .cons ⟨_, rfl⟩ (.cons ru .nil), ⟨_, hT, rfl, _, rfl⟩⟩
    ·rw [aF hcT] at e'
     obtain ⟨q1, q2⟩ := trk c o e'
     refine (I.hok c o e').stay (fun d w' hd q => ?_) (fun d q => ?_) fun d w' q => ?_
     ·have : d ≠ e /\ d ≠ j := by
       rcases hd with rfl | hd
       ·exact ⟨q1, q2⟩
       ·exact trk d _ hd
      exact kk d w' this.1 this.2 q
     ·rw [aF (aD q hfr)]; exact q
     ·rw [aF (aD q hfr)]; exact q
  refine ⟨.ref s.heap.objs.size, _, I1, rfl, ⟨s.heap.objs.size, x, rfl, hfr, fun zs hq' => by rw [I.list_inj hq' hq]; exact hx, rfl⟩, ?_, fun c hc => ?_⟩
  ·refine ⟨⟨u, ?_⟩, a2.at fun o q => (hs'.2 j (Ne.symm ne)).trans q⟩
   have := hz'
   rwa [show k + (i : Int) + 1 = k + ((i + 1 : Nat) : Int) from by omega] at this
  ·have hc0 := (hf c hc).1
   have hne : c ≠ s.heap.objs.size := by
    cases hc with
    | head => exact lt hz
    | tail _ hc => cases hc with
     | head => obtain ⟨_, q, _⟩ := h1; exact lt q
     | tail _ hc => cases hc
   rw [aF hne]; exact hc0
 done := by
  intro X hP hw hK hc i pins s σ H E I hf st hg
  subst hP hw hK
  obtain ⟨xs, hq, hend⟩ := hg
  obtain ⟨⟨old, hz⟩, h1⟩ := st
  obtain ⟨us, rv, p, hsz⟩ := I.list hq
  have l1 := rv.length
  refine En.next_end (I.ok.hd hc) hz h1 p.isList Z6 fun h' hk => ⟨rfl, ?_⟩
  have fj := hf j (.tail _ (.head _))
  exact I.turned (t' := s.toks) (fun b o hb q => hk b o hb q) fj.1 fj.2.1 fj.2.2.2.1 fj.2.2.2.2.1 fj.2.2.2.2.2
 self := fun A i s Q E st h => by
  obtain ⟨⟨old, hz⟩, _⟩ := st
  exact wpAny_pyIter_enum hz h
section
variable {X : Cx} {K : Frag}
def SM (K : Frag) (k : Int) (ta : TA) : TI := fun σ H R => ta σ H fun vs H1 => ∃ a, vs = [.ref a] /\ (∃ xs, SqL K H1 a xs) /\ R (Ite K a k) H1
theorem Gx {a : Expr} {ta : TA} {p pos : Pos} {elts : List Expr} {x1 : Nat} {tpos : Pos} (hK : X.K = K) (hg : Gl X "enumerate") (hm : X.mg "enumerate" = none) (ha : PA X [a] ta) (hs : starEach [a] X.env = [(false, eval a X.env)] := by rfl) :
  PI X (.Tuple elts x1 tpos) (.Call (.Name "enumerate" p) [a] [] pos) (SM K 0 ta) := by
 subst hK
 intro pins s σ H R I h
 refine Call_ (pA I hg hm boot_enumerate (PyProof.Rows.callWith_type1 (thn (ha pos pins s σ H _ I h) fun us s1 ⟨vs, H1, I1, r1, q1⟩ => ?_) (by rw [hs]; rfl) rfl))
 obtain ⟨a1, e, ⟨xs, hx⟩, q⟩ := q1
 subst e
 obtain ⟨u, rfl, rx⟩ := vals1 r1
 cases rx
 obtain ⟨vs1, _, p1, _⟩ := I1.list hx
 refine call_enumerate_list p1.isList fun h' z1 z2 z3 zk => ?_
 refine wpAny_pyIter_enum z1 ?_
 have I2 : Inv X pins σ H1 { s1 with heap := h' } := I1.kept (t' := s1.toks) zk
 refine ⟨_, [s1.heap.objs.size + 1, s1.heap.objs.size], _, _, H1, rfl, I2, Ah a1 _ _ 0 (Nat.succ_ne_self _), ⟨⟨_, z1⟩, z2⟩, fun c hc => ?_, q⟩
 have hle : s1.heap.objs.size <= c := by
  cases hc with
  | head => exact le_succ _
  | tail _ hc => cases hc with
   | head => exact le_refl _
   | tail _ hc => cases hc
 exact I1.fpOk hle (I1.hok.fresh hle)
end
end L2
namespace En
open PySem PySem.Spec PyProof.Rows
open AutoSeq1 (wpAny_loadPart')
section
variable {prog : Program} {w : World} {A : Around} {E : Value -> Shared -> Prop} {s : Shared}
end
end En
namespace L2
open PySem PySem.Spec PyProof.Rows
section
variable {X : Cx} {K : Frag}
end
theorem CZ {K : Frag} {a : Addr} {k : Int} {xs : List V} {g : TG} {tb : TS} {D : Ends} {σ : St} {H : Hp} (Pv : Nat -> St -> Hp -> Prop) (h0 : Pv 0 σ H) (hl : ∀ i σ H, i <= xs.length -> Pv i σ H -> SqL K H a xs)
  (hs : ∀ (i : Nat) x p σ H, xs[i]? = some x -> Pv i σ H -> H p = none -> g (.ref p) σ (upd H p (.tup [.int (k + i), x])) fun σ2 H2 => tb { D with nx := Pv (i + 1), ct := Pv (i + 1), bk := D.nx } σ2 H2) (hd : ∀ σ H, Pv xs.length σ H -> D.nx σ H) :
  ∃ W : Nat -> Nat -> St -> Hp -> Prop, (∃ m, W 0 m σ H) /\ ∀ i m σ H, W i m σ H ->
   ((Ite K a k).stop i H /\ D.nx σ H) \/ ((Ite K a k).go i H /\ ∃ N : St -> Hp -> Prop, (∀ σ' H', N σ' H' -> ∃ m', m' < m /\ W (i + 1) m' σ' H') /\ ∀ x H', (Ite K a k).yld i H x H' -> g x σ H' fun σ2 H2 => tb { D with nx := N, ct := N, bk := D.nx } σ2 H2) := by
 refine ⟨fun i m σ H => m = xs.length - i /\ i <= xs.length /\ Pv i σ H, ⟨xs.length, Z2, zero_le _, h0⟩, ?_⟩
 rintro i m σ H ⟨rfl, hi, p⟩
 have q := hl i σ H hi p
 by_cases hlt : i < xs.length
 ·refine .inr ⟨⟨xs, xs[i], q, by simp [hlt]⟩, Pv (i + 1), fun σ' H' p' => ⟨xs.length - (i + 1), Z1, rfl, hlt, p'⟩, fun x H' y => ?_⟩
  obtain ⟨p0, x0, rfl, hp, hx, rfl⟩ := y
  exact hs i x0 p0 σ _ (hx xs q) p hp
 ·have e : i = xs.length := by omega
  subst e
  exact .inl ⟨⟨xs, q, le_refl _⟩, hd σ H p⟩
section
variable {X : Cx} {e : Expr} {te : TE} {pos : Pos}
theorem pM {K : Frag} (h : X.K = K) : OpR X (compareOp .NotIn) (rIn K true) := by subst h; exact gG
end
section
variable {X : Cx}
end
theorem DQ (xs : List V) (k : Nat) : gP xs none (some (k : Int)) = xs.take k := by
 unfold gP
 rw [HT.sIx_none, HT.sIx_nat, List.drop_zero, Nat.sub_zero]
 by_cases h : k <= xs.length
 ·rw [Nat.min_eq_left h]
 ·rw [Nat.min_eq_right Z1, take_length, List.take_of_length_le Z1]
theorem Ft {xs : List V} {n : Nat} (f : Nat -> V) (hl : xs.length = n) (h : ∀ (i : Nat) v, xs[i]? = some v -> v = f i) : xs = (List.range n).map f := by
 apply ext_getElem
 ·rw [length_map, length_range, hl]
 ·intro i h1 h2
  rw [h i _ (getElem?_eq_getElem h1)]
  simp
end L2
namespace Mine
open PySem PySem.Spec PyProof.Rows L2 PySem.Builtin PySem.Builtin.Str
def lD (ks : List Int) : Str := ⟨(ks.map fun k => 97 + k.toNat).toArray⟩
def vd (ks : List Int) : Prop := ∀ k ∈ ks, 0 <= k /\ k < 26
theorem lu (ks : List Int) : (lD ks).cps.toList = ks.map fun k => 97 + k.toNat := by simp [lD]
theorem vA (ks : List Int) : (lD ks).length = ks.length := by simp [lD, Str.length]
theorem Ht {ks : List Int} (h1 : 1 <= ks.length) (h8 : ks.length <= 8) (h : vd ks) : cQ (lD ks) := ⟨by rw [vA]; exact h1, by rw [vA]; exact h8, fun n hn => by
 rw [lu] at hn
 obtain ⟨k, hk, rfl⟩ := mem_map.mp hn
 have := h k hk
 omega⟩
theorem FN (ks : List Int) : Txt.join ("" : Str) (ks.map fun k => (⟨#[97 + k.toNat]⟩ : Str)) = lD ks := by
 rw [Dc]
 show glued _ _ = _
 rw [StrLaws.glued_eq_join]
 apply jw
 rw [kW, map_map, lu]
 induction ks with
 | nil => rfl
 | cons a r ih => simp only [map_cons, List.flatten_cons, ih] <;> rfl
theorem vd.take {ks : List Int} (h : vd ks) (n : Nat) : vd (ks.take n) := fun k hk => h k (mem_of_mem_take hk)
def wQ (bs : List Int) : List Str := (List.range 8).map fun i => lD (bs.take (i + 1))
theorem Gp {bs : List Int} (h : vd bs) (hl : bs.length = 8) : ∀ z ∈ wQ bs, cQ z := fun z hz => by
 obtain ⟨i, hi, rfl⟩ := mem_map.mp hz
 have hi := mem_range.mp hi
 exact Ht (by rw [length_take]; omega) (by rw [length_take]; omega) (h.take _)
theorem lat {b : Int} (h0 : 0 <= b) (h1 : b < 26) : atI letters.cps.toList b = some (97 + b.toNat) := by
 have h := bf (yI h0 h1)
 rwa [show ((b.toNat : Nat) : Int) = b from by omega] at h
theorem vO {zs : List Str} {x : Str} (h : zs.Nodup) (hx : x ∉ zs) : (zs ++ [x]).Nodup := by
 refine List.pairwise_append.mpr ⟨h, List.pairwise_singleton _ _, fun a ha b hb => ?_⟩
 rw [mem_singleton.mp hb]
 exact fun e => hx (e ▸ ha)
theorem yO {ks : List Int} (h : ks.length <= 8) : ((ks.map fun k => (⟨#[97 + k.toNat]⟩ : Str)).map (·.length)).sum + (ks.map fun k => (⟨#[97 + k.toNat]⟩ : Str)).length * (("" : Str)).length <= 16777216 := by
 have h1 : ((ks.map fun k => (⟨#[97 + k.toNat]⟩ : Str)).map (·.length)).sum <= (ks.map fun k => (⟨#[97 + k.toNat]⟩ : Str)).length * 1 := uR fun y hy => by
  obtain ⟨k, _, rfl⟩ := mem_map.mp hy
  exact le_refl 1
 have h2 : (("" : Str)).length = 0 := by decide +kernel
 rw [h2]
 rw [length_map] at h1 ⊢
 omega
theorem o9 {s : Str} {zs : List V} (h : V.str s ∈ zs) : inV (.str s) zs = true := by
 unfold inV
 rw [List.any_eq_true]
 exact ⟨_, h, by simp [eqV]⟩
end Mine
namespace L2
open PySem PySem.Spec PyProof.Rows PySem.W
abbrev bV (C : Addr) (dx : Option Addr) (vs : Array Value) : Obj := { cls := .ref C, dict := dx, data := .fields vs }
section
variable {prog : Program} {w : World} {A : Around} {R : Result -> Shared -> Prop} {h : Heap} {g : Array GenState} {d : Drawn} {t : Nat} {os : OsState}
variable {nm q : Str} {C N : Addr} {f : Value} {bs bm bmB : List Value} {hdct : Bool} {sn : List Str} {sub : List Value} {ab : Bool} {col : Option Bool} {dd : Option Addr} {k0 k1 k2 k3 k5 : Option Value} {B newId initId : String}
theorem Du (F : ExcBaseFacts B newId initId bmB) (T : OwnTail h bmB bm) {rest : List Value}
  (hC : h.get? C = some (excClassObj nm q C N bs bm hdct sn sub ab col dd k0 k1 k2 k3 k5 newId)) (hi : Looks (model prog w) h (typeLookup (.ref C) "__init__") (some f))
  (hb : ∀ self, Looks (model prog w) h (bindSpecial f self) (f, [self])) (hrest : rest.length <= sizeLine)
  (hq : codeAny (model prog w) (A.under (.builtin "type.__call__" ⟨.ref C :: rest, []⟩)) (.call f ⟨.ref (h.objs.size + 1) :: rest, []⟩) (InitBack (h.objs.size + 1) R)
   ⟨(h.push { cls := .type "tuple", data := .seq rest.toArray }).push (bV C none #[.ref h.objs.size, .none, .none, .none, .bool false, .none]), g, d, t, os⟩) :
  codeAny (model prog w) A (.call (.ref C) ⟨rest, []⟩) R ⟨h, g, d, t, os⟩ := by
 have f1 := PySem.tc_lookup
 have f2 := PySem.tc_bind (.ref C)
 have hT : (⟨h, g, d, t, os⟩ : Shared).TypeIs (.ref C) "type" := ⟨_, hC, rfl⟩
 refine codeAny_of_tree ?_
 show wpAny _ _ (callAny (.ref C) _) _ _ _
 repeat (any_goals (first | assumption | with_reducible refine wpAny_loadPart_at hC ?_ | wp_step))
 refine ⟨rfl, ?_⟩
 refine codeAny_call_builtin_at (Code.quiet_builtin _ Z4) PySem.entry_typeCall (wpAny_check_type_call_sub hC ?_)
 repeat (first | with_reducible refine wpAny_loadPart_at hC ?_ | with_reducible refine wpAny_madeBy_exc hC ?_ | wp_step)
 refine codeAny_call_builtin_code (Code.quiet_builtin _ F.quiet) (wpAny_check_new_subT F T hC ?_)
 refine codeAny_exc_new_subT F T hC ?_ hrest
 show wpAny _ _ _ _ _ _
 have kp : ∀ b o, h.get? b = some o -> ((h.push { cls := .type "tuple", data := .seq rest.toArray }).push { cls := .ref C, data := .fields #[.ref h.objs.size, .none, .none, .none, .bool false, .none] }).get? b = some o := fun b o e => Heap.get?_push_of_some _ (Heap.get?_push_of_some _ e)
 have hC₁ := kp _ _ hC
 have hget : ((h.push { cls := .type "tuple", data := .seq rest.toArray }).push { cls := .ref C, data := .fields #[.ref h.objs.size, .none, .none, .none, .bool false, .none] }).get? (h.objs.size + 1) = some { cls := .ref C, data := .fields #[.ref h.objs.size, .none, .none, .none, .bool false, .none] } := by heap_get
 have hcC : (Value.ref C :: bm).contains (.ref C) = true := by simp
 have t1 : Looks (model prog w) ((h.push { cls := .type "tuple", data := .seq rest.toArray }).push { cls := .ref C, data := .fields #[.ref h.objs.size, .none, .none, .none, .bool false, .none] }) (typeOf (.ref (h.objs.size + 1))) (.ref C) := (Looks.ld hget).andThen .now
 have s1 : Looks (model prog w) ((h.push { cls := .type "tuple", data := .seq rest.toArray }).push { cls := .ref C, data := .fields #[.ref h.objs.size, .none, .none, .none, .bool false, .none] }) (isSubtype (.ref C) (.ref C)) true := fun A' Q' E' s' k q' => by
  obtain ⟨h', g', d', tk', os'⟩ := s'
  refine wpAny_isSubtype_exc (k _ _ hC₁) ?_
  rw [hcC]
  exact q'
 have i1 := hi.keeps kp
 have b1 := (hb (.ref (h.objs.size + 1))).keeps kp
 show wpAny _ _ _ _ _ ⟨(h.push { cls := .type "tuple", data := .seq rest.toArray }).push { cls := .ref C, data := .fields #[.ref h.objs.size, .none, .none, .none, .bool false, .none] }, g, d, t, os⟩
 unfold isInstance callSpecial? specialOf
 repeat (first | with_reducible refine wpAny_call ?_ | lk)
 refine codeAny_mono hq fun r s' z => ?_
 rcases r with e | (v | _ | _ | _) <;> first | exact z | exact z.elim | skip
 obtain ⟨rfl, z⟩ := z
 exact wpAny_pure (wpAny_pure z)
theorem BK (F : ExcBaseFacts B newId initId bmB) (T : OwnTail h bmB bm) {e : Addr} {dx : Option Addr} {t0 : Addr} {a1 a2 a3 a4 a5 v : Value}
  (hC : h.get? C = some (excClassObj nm q C N bs bm hdct sn sub ab col dd k0 k1 k2 k3 k5 newId)) (he : h.get? e = some { cls := .ref C, dict := dx, data := .fields #[.ref t0, a1, a2, a3, a4, a5] })
  (hq : ∀ h', (∀ b o, b ≠ e -> h.get? b = some o -> h'.get? b = some o) -> h'.get? e = some { cls := .ref C, dict := dx, data := .fields #[.ref h.objs.size, a1, a2, a3, a4, a5] } -> R (.ok (.ret .none)) ⟨h', g, d, t, os⟩) :
  codeAny (model prog w) A (.call (.builtin initId) ⟨[.ref e, v], []⟩) R ⟨h, g, d, t, os⟩ := by
 refine (codeAny_call_builtin F.init.plain F.initEntry (wpAny_check_init_subT F T hC he rfl ?_))
 wp_walk
 have hne : e ≠ h.objs.size := ne_of_lt (Heap.lt_size he)
 refine hq _ (fun b o hb ho => ?_) ?_
 ·rw [Heap.get?_update_other _ _ (Ne.symm hb)]
  exact Heap.get?_push_of_some _ ho
 ·rw [Heap.get?_update_self _ (Heap.get?_push_of_some _ he) rfl]
  rfl
theorem Cd {E : Value -> Shared -> Prop} (F : ExcBaseFacts B newId initId bmB) (T : OwnTail h bmB bm) {e : Addr} {dx : Option Addr} {t0 : Addr} {a1 a2 a3 a4 a5 v : Value} {Q : Value -> Shared -> Prop}
  (hC : h.get? C = some (excClassObj nm q C N bs bm hdct sn sub ab col dd k0 k1 k2 k3 k5 newId)) (he : h.get? e = some { cls := .ref C, dict := dx, data := .fields #[.ref t0, a1, a2, a3, a4, a5] })
  (hq : ∀ h', (∀ b o, b ≠ e -> h.get? b = some o -> h'.get? b = some o) -> h'.get? e = some { cls := .ref C, dict := dx, data := .fields #[.ref h.objs.size, a1, a2, a3, a4, a5] } -> Q .none ⟨h', g, d, t, os⟩) :
  wpAny (model prog w) A (call (.builtin initId) [.ref e, v]) Q E ⟨h, g, d, t, os⟩ := by
 refine wpAny_call (BK F T hC he fun h' k e' => ?_)
 exact hq h' k e'
end
section
variable {prog : Program} {w : World} {A : Around} {E : Value -> Shared -> Prop} {s : Shared} {K : Frag} {x C : Addr} {ox : Obj} {od : Option Obj} {name : Str} {expr : Bool} {Q : Value -> Shared -> Prop}
end
section
variable {prog : Program} {w : World} {A : Around} {E : Value -> Shared -> Prop} {s : Shared} {K : Frag} {x C : Addr} {ox : Obj} {od : Option Obj} {name : Str} {expr : Bool} {Q : Value -> Shared -> Prop}
end
end L2
namespace L2
open PySem PySem.Spec PyProof.Rows PySem.W Builtin Builtin.ObjectAttr
def b8 : List Value -> Bool
 | .ref _ :: r => b8 r
 | l => l == [.type "ValueError", .type "Exception", .type "BaseException", .type "object"]
theorem nu (c : Addr) (r : List Value) : b8 (.ref c :: r) = b8 r := by rw [b8]
theorem qO : ∀ {l : List Value}, b8 l = true -> (∃ c r, l = .ref c :: r) \/ l = [.type "ValueError", .type "Exception", .type "BaseException", .type "object"]
 | .ref c :: r, _ => .inl ⟨c, r, rfl⟩
 | [], e => by cases e
 | .type n :: r, e => .inr (eq_of_beq (by unfold b8 at e; exact e))
 | .none :: r, e => .inr (eq_of_beq (by unfold b8 at e; exact e))
 | .bool _ :: r, e => .inr (eq_of_beq (by unfold b8 at e; exact e))
 | .int _ _ :: r, e => .inr (eq_of_beq (by unfold b8 at e; exact e))
 | .str _ _ :: r, e => .inr (eq_of_beq (by unfold b8 at e; exact e))
 | .builtin _ :: r, e => .inr (eq_of_beq (by unfold b8 at e; exact e))
 | .float _ _ :: r, e => .inr (eq_of_beq (by unfold b8 at e; exact e))
 | .bytes _ _ :: r, e => .inr (eq_of_beq (by unfold b8 at e; exact e))
 | .ellipsis :: r, e => .inr (eq_of_beq (by unfold b8 at e; exact e))
 | .notImplemented :: r, e => .inr (eq_of_beq (by unfold b8 at e; exact e))
theorem mL (self : Value) : ∀ {l : List Value}, b8 l = true -> refuseLoop self "__setattr__" l = pure ()
 | l, e => by
  rcases qO e with ⟨c, r, rfl⟩ | rfl
  ·rw [refuseLoop_ref]; exact mL self (l := r) (by rw [nu] at e; exact e)
  ·exact PySem.F.store_ValueError.passes self
termination_by l => l.length
theorem nF : ∀ {l : List Value}, b8 l = true -> l.contains (.type "object") = true
 | l, e => by
  rcases qO e with ⟨c, r, rfl⟩ | rfl
  ·rw [contains_cons, nF (l := r) (by rw [nu] at e; exact e), Bool.or_true]
  ·decide
termination_by l => l.length
def vP (K : Frag) (C : Addr) : Bool := (clsIn K C).any fun cd => b8 cd.mro
section
variable {prog : Program} {w : World} {A : Around} {s : Shared} {K : Frag} {x C : Addr} {R : Result -> Shared -> Prop}
theorem Bu {ox : Obj} {od : Option Obj} {name : Str} {tk : Tok} {v : Value} {r : Option Value} (X : K.In s.heap) (I : InstAt s.heap x ox C od) (hp : vP K C = true) (ht : takerIn K C name = some r)
  (h : ∀ b, wpAny (model prog w) A.in1 (match r with | some a => Builtin.ObjectAttr.setByDescriptor a (.ref x) v | none => Builtin.ObjectAttr.storeInOwnDict (.ref x) (.ref C) (.str name tk) name v b)
   (fun fin s' => match fin with | .done f => R (.ok f) s' | .again c' => c'.quiet = true /\ codeAny (model prog w) A c' R s') (fun e s' => R (.error e) s') s) :
  codeAny (model prog w) A (.call (.builtin "object.__setattr__") ⟨[.ref x, .str name tk, v], []⟩) R s := by
 have SF := PySem.F.store_object
 obtain ⟨cd, hc, ho⟩ := any_some hp
 have ne : cd.mro.isEmpty = false := by cases q : cd.mro with | nil => rw [q] at ho; cases ho | cons _ _ => rfl
 have sub : Looks (model prog w) s.heap (isInstance (.ref x) (.type "object")) true := I.type.andThen (looks_mroIn X (by unfold mroIn; rw [hc, bind_some, if_neg (by rw [ne]; decide), nF ho]))
 refine codeAny_call_builtin SF.slot.plain SF.entry (@check_slot (model prog w) _ _ s "object.__setattr__" "object" "__setattr__" (.ref x) [.str name tk, v] [] _ SF.kind SF.split sub (SF.args (.ref x) (.str name tk) v) ?_)
 obtain ⟨attr, ha, hr⟩ := Option.bind_eq_some_iff.mp ht
 have hm : Looks (model prog w) s.heap (mroOf (.ref C)) cd.mro := (looks_clsIn X hc).andThen .now
 have L3 : Looks (model prog w) s.heap (storeTaker? attr) r := by
  cases attr with
  | none => cases hr; exact .now
  | some a =>
   obtain ⟨b, hb, rfl⟩ := Option.map_eq_some_iff.mp hr
   refine (looks_takesIn X hb).andThen ?_
   cases b <;> exact .now
 rw [osa_eq, refuse_eq]
 refine wpAny_bind (wpAny_bind (I.type.here (wpAny_bind (hm.here ?_))))
 rw [mL _ ho]
 refine wpAny_pure (wpAny_bind (I.type.here (wpAny_bind ((looks_findIn X ha).here (wpAny_bind (L3.here ?_))))))
 exact h _
end
section
variable {prog : Program} {w : World} {A : Around} {E : Value -> Shared -> Prop} {s : Shared} {K : Frag} {x C : Addr} {name : Str} {v : Value} {vs : Array Value}
theorem Dv {Q : Unit -> Shared -> Prop} (X : K.In s.heap) (hx : s.heap.get? x = some (bV C none vs))
  (hs : findIn K (.ref C) "__setattr__" = some (some (.builtin "object.__setattr__"))) (hp : vP K C = true) (ht : takerIn K C name = some none) (hh : hasDictIn K C = true)
  (h : ∀ h' t', (∀ b o, b ≠ x -> s.heap.get? b = some o -> h'.get? b = some o) -> h'.get? x = some (bV C (some s.heap.objs.size) vs) -> h'.Ns1 s.heap.objs.size (fun y => if y = name then some v else none) ->
   Q () { s with heap := h', toks := t' }) :
  wpAny (model prog w) A (setAttr (.ref x) name v) Q E s := by
 have I : InstAt s.heap x (bV C none vs) C none := ⟨hx, rfl, rfl, True.intro⟩
 refine set_plain X I hs (Bu (s := { s with toks := s.toks + 1 }) (r := none) X I hp ht fun b => ?_)
 obtain ⟨cd, hc, hd'⟩ := any_some hh
 refine wpAny_bind (wpAny_pure (wpAny_bind (wpAny_bind (wpAny_loadPart hx (wpAny_bind (Looks.here (s := { s with toks := s.toks + 1 }) (looks_clsIn X hc) ?_))))))
 rw [hd']
 have hx₁ : (s.heap.push { cls := .type "dict", data := .dict #[] }).get? x = some (bV C none vs) := Heap.get?_push_of_some _ hx
 have hxs : x ≠ s.heap.objs.size := ne_of_lt (Heap.lt_size hx)
 refine wpAny_bind (wpAny_alloc' ?_)
 refine wpAny_bind (wpAny_update' hx₁ ?_)
 refine wpAny_pure ?_
 have hgd : ((s.heap.push { cls := .type "dict", data := .dict #[] }).update x fun o => { cls := o.cls, dict := some s.heap.objs.size, data := o.data, slots := o.slots }).get? s.heap.objs.size
   = some { cls := .type "dict", data := .dict #[] } :=
  (Heap.get?_update_ne _ _ _ _ hxs.symm).trans (Heap.get?_push_at rfl rfl)
 have hnd : ((s.heap.push { cls := .type "dict", data := .dict #[] }).update x fun o => { cls := o.cls, dict := some s.heap.objs.size, data := o.data, slots := o.slots }).Ns s.heap.objs.size (fun _ => none) :=
  ⟨_, #[], _, hgd, rfl, fun e he => absurd he Z2, fun _ => rfl⟩
 show wpAny _ _ (storeInDict s.heap.objs.size (.str name s.toks) name v) _ _ _
 unfold storeInDict newKeyGuard
 refine wpAny_bind (wpAny_pure (wpAny_bind (wpAny_nsSet1 (Heap.Ns1.of_empty hnd) fun h' hn' hs => ?_)))
 obtain ⟨oD, esD, epD, hoD, hdD, hcD⟩ := hn'.count (Within.cons name v Within.nil)
 refine wpAny_bind (wpAny_lookBehind hoD (by rw [hdD]; exact pastItsLine_dict (le_trans hcD (by rw [length_cons, List.length_nil, sizeLine_eq]; omega))) ?_)
 refine wpAny_pure (h _ _ (fun b ob hbx hb => ?_) ?_ hn')
 ·exact (hs.2 b (ne_of_lt (Heap.lt_size hb))).trans ((Heap.get?_update_ne _ _ _ _ hbx).trans (Heap.get?_push_of_some _ hb))
 ·exact (hs.2 x hxs).trans (Heap.get?_update_self _ hx₁ rfl)
end
end L2
namespace L2
open PySem PySem.Spec PyProof.Rows PySem.W
def ExO (fl : Bool) (x C : Addr) (dx : Option Addr) : HO := .ext fun h => ∃ t0 a1 a2 a3 a4 a5, h.get? x = some (bV C dx #[.ref t0, a1, a2, a3, a4, a5]) /\ (fl = true -> a1 = .none)
def XdO (p : Addr) (fs : List (Str × V)) : HO := .ext fun h => ∃ mA, h.Ns1 p mA /\ (∀ f, jF (fs.lookup f) (mA f)) /\ Within mA (fs.map (·.1))
section
variable {P : Program} {w : World} {H : Hp} {h : Heap} {fl : Bool} {x p C : Addr} {dx : Option Addr} {fs : List (Str × V)}
theorem rY {t0 : Addr} {a1 a2 a3 a4 a5 : Value} (e : h.get? x = some (bV C dx #[.ref t0, a1, a2, a3, a4, a5])) (hfl : fl = true -> a1 = .none) : bF P w H h x (ExO fl x C dx) :=
 ⟨⟨_, _, _, _, _, _, e, hfl⟩, ⟨_, e⟩, fun h1 h2 ⟨t0, a1, a2, a3, a4, a5, q, z⟩ k => ⟨t0, a1, a2, a3, a4, a5, k _ q, z⟩⟩
theorem Jb {mA : Str -> Option Value} (n : h.Ns1 p mA) (r : ∀ f, jF (fs.lookup f) (mA f)) (wi : Within mA (fs.map (·.1))) : bF P w H h p (XdO p fs) :=
 ⟨⟨mA, n, r, wi⟩, let ⟨o, _, _, e, _⟩ := n; ⟨o, e⟩, fun h1 h2 ⟨mA, ⟨o, es, ep, e, c⟩, r⟩ k => ⟨mA, ⟨o, es, ep, k _ e, c⟩, r⟩⟩
theorem oF (hok : HOk P w H h) (e : H x = some (ExO fl x C dx)) : ∃ t0 a1 a2 a3 a4 a5, h.get? x = some (bV C dx #[.ref t0, a1, a2, a3, a4, a5]) /\ (fl = true -> a1 = .none) := (show bF P w H h x (ExO fl x C dx) from hok x _ e).1
end
structure Fz (K : Frag) (C : Addr) : Prop where
 ga : findIn K (.ref C) "__getattribute__" = some (some (.builtin "BaseException.__getattribute__"))
 bx : mroIn K C (.type "BaseException") = some true
 nga : findIn K (.ref C) "__getattr__" = some none
 ob : mroIn K C (.type "object") = some true
 hd : hasDictIn K C = true
 ov : vP K C = true
 sa : findIn K (.ref C) "__setattr__" = some (some (.builtin "object.__setattr__"))
 cl : findIn K (.ref C) "__class__" = some (some (.builtin "object.__class__"))
 cg : specialIn K (.builtin "object.__class__") "__get__" = some (some (.builtin "getset_descriptor.__get__"))
 ct : takesIn K (.builtin "object.__class__") = some true
section
variable {X : Cx} {pins : List (Addr × Obj)} {σ : St} {H : Hp} {s : Shared} {fl : Bool} {a C dx : Addr} {fs : List (Str × V)} {f : Str} {v : V} {A : Around} {E : Value -> Shared -> Prop}
theorem Cj {y : V} {u : Value} {Q : Unit -> Shared -> Prop} (I : Inv X pins σ H s) (e : H a = some (ExO fl a C none)) (c : Fz X.K C) (n : cF X.K C f) (ry : RelV y u)
  (h : ∀ p s', H p = none -> p ≠ a -> Inv X pins σ (upd (upd H p (XdO p [(f, y)])) a (ExO fl a C (some p))) s' -> Q () s') : wpAny (model X.prog X.w) A (setAttr (.ref a) f u) Q E s := by
 obtain ⟨t0, a1, a2, a3, a4, a5, hx, hfl⟩ := oF I.hok e
 have hlt : a < s.heap.objs.size := Heap.lt_size hx
 have hne : s.heap.objs.size ≠ a := ne_of_gt hlt
 refine Dv I.kIn hx c.sa c.ov n.taker c.hd fun h' t' k hx' hn' => h s.heap.objs.size _ (I.hok.fresh (le_refl _)) hne ?_
 have g1 : (h'.update a fun _ => bV C none #[.ref t0, a1, a2, a3, a4, a5]).get? a = some (bV C none #[.ref t0, a1, a2, a3, a4, a5]) := Heap.get?_update_self _ hx' rfl
 have g2 : ∀ b, b ≠ a -> (h'.update a fun _ => bV C none #[.ref t0, a1, a2, a3, a4, a5]).get? b = h'.get? b := fun b hb => Heap.get?_update_ne _ _ _ _ hb
 have I1 := I.laid (a := s.heap.objs.size) (o := XdO s.heap.objs.size [(f, y)]) (h' := h'.update a fun _ => bV C none #[.ref t0, a1, a2, a3, a4, a5]) (t' := t') (fun b o q => by
   by_cases hb : b = a
   ·subst hb; rw [hx] at q; cases q; exact g1
   ·rw [g2 b hb]; exact k b o hb q) (le_refl _) (by
   obtain ⟨o, es, ep, q, r⟩ := hn'
   refine Jb ⟨o, es, ep, by rw [g2 _ hne]; exact q, r⟩ (fun g => ?_) (fun g hg => ?_)
   ·show jF (List.lookup g [(f, y)]) (if g = f then some u else none)
    by_cases z : g = f
    ·have hb : (g == f) = true := beq_iff_eq.mpr z
     simp only [List.lookup, hb, if_pos z]; exact ry
    ·have hb : (g == f) = false := beq_eq_false_iff_ne.mpr z
     simp only [List.lookup, hb, if_neg z]; exact True.intro
   ·by_cases z : g = f
    ·rw [z]; simp
    ·exact absurd (if_neg z) hg)
 refine I1.write (x := a) (e := a) (o := ExO fl a C (some s.heap.objs.size)) (t' := t') (h' := h') (by rw [aF hne.symm, e]; exact True.intro) (.inl rfl) (fun b o hb q => by rw [<- g2 b hb]; exact q) ⟨_, hx'⟩ (rY hx' hfl)
end
def Eg (K : Frag) (ta tv : TE) (f : Str) : TS := fun D σ H => tv σ H fun y H1 => ta σ H1 fun x H2 => ∃ fl a C, x = .ref a /\ H2 a = some (ExO fl a C none) /\ Fz K C /\ cF K C f /\
 ∀ p, H2 p = none -> p ≠ a -> D.nx σ (upd (upd H2 p (XdO p [(f, y)])) a (ExO fl a C (some p)))
section
variable {X : Cx} {o e value : Expr} {f : Str} {pos pos' tpos : Pos} {ta tv : TE}
theorem Ex (ha : PE X o ta) (hv : PE X value tv) (hs : swapsWith value (some (.Attribute o f pos')) pos.line X.env = pure false) : PS X (.Assign [.Attribute o f pos'] value pos) (Eg X.K ta tv f) := by
 intro pins s σ H D I h
 refine plainObj_wpAny_Assign_Attribute (thn (hv pins s σ H _ I h) fun u s1 ⟨y, H1, I1, ry, q⟩ => thn (ha pins s1 σ H1 _ I1 q) fun ov s2 ⟨x, H2, I2, rx, fl, a, C, ex, ea, c, n, q2⟩ => ?_) hs
 subst ex
 obtain rfl : ov = Value.ref a := rx
 exact Cj I2 ea c n ry fun p s3 h1 h2 I3 => ⟨σ, _, I3, q2 p h1 h2⟩
end
abbrev TJ := Str -> St -> Hp -> VK -> Prop
def PJ (X : Cx) (es : List Expr) (t : TJ) : Prop :=
 ∀ (pins : List (Addr × Obj)) (s : Shared) (σ : St) (H : Hp) (out : Str) (Q : VK), Inv X pins σ H s -> t out σ H Q -> wpAny (model X.prog X.w) X.A (joinParts out (evalEach es X.env)) (EP X pins σ Q) X.xe s
def Tq : TJ := fun out _ H Q => out.length <= sizeLine /\ Q (.str out) H
def PP (te : TE) (tr : TJ) : TJ := fun out σ H Q => te σ H fun x H1 => ∃ y : Str, x = .str y /\ (out ++ y).length <= sizeLine /\ tr (out ++ y) σ H1 Q
def Tn (te : TE) : TE := fun σ H Q => te σ H fun x H1 => (∃ i : Int, x = .int i /\ i.natAbs.log2 < 1920 /\ Q (.str (toString i)) H1) \/ ∃ y : Str, x = .str y /\ y.length <= sizeLine /\ Q (.str y) H1
section
variable {X : Cx} {e v1 v2 : Expr} {es : List Expr} {te : TE} {tr : TJ} {pos : Pos}
theorem JC : PJ X [] Tq := fun pins s σ H out Q I ⟨h1, h2⟩ => joinParts_nil ⟨.str out, H, I.tok _, ⟨_, rfl⟩, h2⟩ h1
theorem zr (he : PE X e te) (hr : PJ X es tr) (hs : evalEach (e :: es) X.env = eval e X.env :: evalEach es X.env := by rfl) : PJ X (e :: es) (PP te tr) := by
 intro pins s σ H out Q I h
 rw [hs]
 refine joinParts_cons (thn (he pins s σ H _ I h) fun u s1 ⟨x, H1, I1, rx, y, ex, hl, q⟩ => ?_)
 subst ex
 obtain ⟨t, rfl⟩ := (show ∃ t, u = Value.str y t from rx)
 exact ⟨hl, hr pins s1 σ H1 _ Q I1 q⟩
theorem Aw (h : PJ X (v1 :: v2 :: es) tr) : PE X (.JoinedStr (v1 :: v2 :: es) pos) (tr Str.empty) := fun pins s σ H Q I q => JoinedStr_many (h pins s σ H _ Q I q)
theorem IK (he : PE X e te) : PE X (.FormattedValue e (-1) none pos) (Tn te) := by
 intro pins s σ H Q I h
 refine FormattedValue_plain (thn (he pins s σ H _ I h) fun u s1 ⟨x, H1, I1, rx, q⟩ => ?_)
 rcases q with ⟨i, ex, hl, q⟩ | ⟨y, ex, hl, q⟩
 ·subst ex
  obtain ⟨t, rfl⟩ := (show ∃ t, u = Value.int i t from rx)
  exact formatField_int_small hl ⟨.str (toString i), H1, I1.tok _, ⟨_, rfl⟩, q⟩
 ·subst ex
  obtain ⟨t, rfl⟩ := (show ∃ t, u = Value.str y t from rx)
  exact formatField_str (fun t' tk => ⟨.str y, H1, I1.tok _, ⟨_, rfl⟩, q⟩) hl
end
abbrev rT : List Value := [.type "ValueError", .type "Exception", .type "BaseException", .type "object"]
def ExC (K : Frag) (C : Addr) : Prop := ∃ nm q N bs bm hdct sn sub ab col dd k0 k1 k2 k3 k5, K.lookup C = some (excClassObj nm q C N bs bm hdct sn sub ab col dd k0 k1 k2 k3 k5 "ValueError.__new__") /\ ∀ h, K.In h -> OwnTail h rT bm
theorem Dl {H : Hp} {a : Addr} {o : HO} (e : H a = some o) : upd H a o = H := by
 funext b
 by_cases hb : b = a
 ·subst hb; rw [ak, e]
 ·rw [aF hb]
section
variable {X : Cx} {pins : List (Addr × Obj)} {σ : St} {H : Hp} {s : Shared} {fl : Bool} {a C B : Addr} {dx : Option Addr} {A : Around} {E : Value -> Shared -> Prop}
theorem Dr {u : Value} {Q : Value -> Shared -> Prop} (I : Inv X pins σ H s) (e : H a = some (ExO fl a C dx)) (c : ExC X.K C) (h : ∀ s', Inv X pins σ H s' -> Q .none s') :
  wpAny (model X.prog X.w) A (call (.builtin "ValueError.__init__") [.ref a, u]) Q E s := by
 obtain ⟨nm, q, N, bs, bm, hdct, sn, sub, ab, col, dd, k0, k1, k2, k3, k5, hc, T⟩ := c
 obtain ⟨t0, a1, a2, a3, a4, a5, hx, hfl⟩ := oF I.hok e
 obtain ⟨hh, g, d, t, os⟩ := s
 refine Cd PySem.F.excBase_ValueError (T _ I.kIn) (I.kIn _ _ hc) hx fun h' k hx' => h _ ?_
 have z := I.write (x := a) (e := a) (o := ExO fl a C dx) (t' := t) (h' := h') (by rw [e]; exact True.intro) (.inl rfl) (fun b o hb q => k b o hb q) ⟨_, hx'⟩ (rY hx' hfl)
 rwa [Dl e] at z
def HX (K : Frag) (t : TA) : TE := fun σ H Q => t σ H fun vs H1 => ∃ fl a C dx y, vs = [.ref a, y] /\ H1 a = some (ExO fl a C dx) /\ ExC K C /\ Q .non H1
theorem DY {x : Str} {e1 : Expr} {es : List Expr} {t : TA} {p apos pos : Pos} {pl : Sem Bool} (hg : Gl X x) (hm : X.mg x = some (.ref B)) (hs : specialIn X.K (.ref B) "__getattribute__" = some (some (.builtin "type.__getattribute__")))
  (hr : readsIn X.K B (.type "type") = true) (hf : findCls X.K (.ref B) (.type "type") "__init__" = some (.val (.builtin "ValueError.__init__"))) (ha : PA X (e1 :: es) t)
  (hdb : (x == ("__debug__" : Str)) = false := by decide) (he : starEach (e1 :: es) X.env = (false, eval e1 X.env) :: starEach es X.env := by rfl) (hpl : (backTo pos (starEach es X.env)).any (·.1) = false := by rfl)
  (ht : eval (.Call (.Attribute (.Name x p) "__init__" apos) (e1 :: es) [] pos) X.env = (do
   let ov <- eval (.Name x p) X.env
   standAt apos.atName
   let (f, first) <- holding [ov] (getMethod ov "__init__" pl)
   callWith pos f first (backTo pos (starEach (e1 :: es) X.env)) (backToKw pos (keywordEach [] X.env))) := by rfl) :
  PE X (.Call (.Attribute (.Name x p) "__init__" apos) (e1 :: es) [] pos) (HX X.K t) := by
 intro pins s σ H Q I h
 refine methodCall_KW (pl := pl) (lR I hg hm ?_ hdb) ht
 refine method_cls I.kIn hs (cls_value I.kIn hr hf rfl ?_)
 have I0 : Inv X pins σ H { s with toks := s.toks + 1 } := I.tok _
 refine PyProof.Rows.callWith_builtin1 (thn (ha pos pins _ σ H _ I0 h) fun us s1 ⟨vs, H1, I1, r1, fl, a, C, dx, y, ev, ea, c, q1⟩ => ?_) he hpl
 subst ev
 obtain ⟨u, u2, rfl, rx, _⟩ := vals2 r1
 obtain rfl : u = Value.ref a := rx
 exact Dr I1 ea c fun s' I' => ⟨.non, H1, I', rfl, q1⟩
end
def Dg (C : Addr) (sp : Sp) (dvs : List V) (E : XK) (t : TA) : TE := fun σ H Q => t σ H fun vs H1 => ∀ x, H1 x = none ->
 sp (.ref x :: (vs ++ dvs)) (upd H1 x (ExO true x C none)) (fun v H2 => v = .non /\ Q (.ref x) H2) E
section
variable {X : Cx} {CX : CXT} {k : Nat} {f C : Addr} {fd : FuncData} {ps : List Str} {sp : Sp} {dvs : List V} {ds : List Value} {E : XK} {x : Str} {p pos : Pos} {e : Expr} {es : List Expr} {t : TA}
theorem Inv.madeX {pins : List (Addr × Obj)} {σ : St} {H : Hp} {s : Shared} {us : List Value} (I : Inv X pins σ H s) : Inv X pins σ (upd H (s.heap.objs.size + 1) (ExO true (s.heap.objs.size + 1) C none))
  { s with heap := (s.heap.push { cls := .type "tuple", data := .seq us.toArray }).push (bV C none #[.ref s.heap.objs.size, .none, .none, .none, .bool false, .none]) } := by
 have hget : ((s.heap.push { cls := .type "tuple", data := .seq us.toArray }).push (bV C none #[.ref s.heap.objs.size, .none, .none, .none, .bool false, .none])).get? (s.heap.objs.size + 1) = some (bV C none #[.ref s.heap.objs.size, .none, .none, .none, .bool false, .none]) := by heap_get
 exact I.laid (a := s.heap.objs.size + 1) (t' := s.toks) (fun b u q => Heap.get?_push_of_some _ (Heap.get?_push_of_some _ q)) (le_succ _) (rY hget (fun _ => rfl))
theorem Aj {pins : List (Addr × Obj)} {σ : St} {H : Hp} {s : Shared} {Q : VK} {us : List Value} {vs : List V} (c : ExC X.K C) (hi : findIn X.K (.ref C) "__init__" = some (some (.ref f))) (hf : isFn X.K (.ref f) = true)
  (F : aM X.prog X.w X.K X.mg X.base CX k f fd ps sp) (hr : aP (k + 1) X.A) (hb : Binds X.K fd ps ds) (hd : Vals dvs ds) (hx : jM CX X E) (I : Inv X pins σ H s) (r : Vals vs us) (hps : ps.length <= 1000)
  (h : ∀ x, H x = none -> sp (.ref x :: (vs ++ dvs)) (upd H x (ExO true x C none)) (fun v H2 => v = .non /\ Q (.ref x) H2) E) :
  wpAny (model X.prog X.w) X.A (call (.ref C) us) (EP X pins σ Q) X.xe s := by
 have hq := h (s.heap.objs.size + 1) (I.hok.fresh (le_succ _))
 have I2 := Inv.madeX (C := C) (us := us) I
 have r2 : Vals (V.ref (s.heap.objs.size + 1) :: (vs ++ dvs)) (Value.ref (s.heap.objs.size + 1) :: (us ++ ds)) := .cons rfl (r.append hd)
 have hl : (Value.ref (s.heap.objs.size + 1) :: us ++ ds).length = ps.length := by
  have e := r2.length
  rw [F.len _ _ _ _ hq] at e
  exact e.symm
 have hus : us.length <= sizeLine := by
  have : us.length <= ps.length := by rw [<- hl, length_append, length_cons]; omega
  exact le_trans this (le_trans hps Z0)
 obtain ⟨nm, q, N, bs, bm, hdct, sn, sub, ab, col, dd, k0, k1, k2, k3, k5, hc, T⟩ := c
 refine wpAny_call (Du PySem.F.excBase_ValueError (T _ I.kIn) (I.kIn _ _ hc) (looks_findIn I.kIn hi) (fun self => bind_fn I.kIn self (beq_iff_eq.mp hf)) hus
  (codeAny_mono (F.run _ X.stack _ _ ⟨Value.ref (s.heap.objs.size + 1) :: us, []⟩ (Value.ref (s.heap.objs.size + 1) :: (us ++ ds)) _ _ E (hr.make C us [])
  (I2.env0.make C us []) (hb _ (Value.ref (s.heap.objs.size + 1) :: us) I2.kIn hl) r2 hq) fun r s' hq' => ?_))
 cases r with
 | error e => exact hx pins σ _ _ e s' I2 hq'
 | ok fl =>
  cases fl with
  | ret u =>
   obtain ⟨v, H', I3, rv, ev, q3⟩ := I2.after hq'
   subst ev
   exact ⟨rv, ⟨V.ref (s.heap.objs.size + 1), H', I3, rfl, q3⟩⟩
  | next => exact False.elim hq'
  | brk => exact False.elim hq'
  | cont => exact False.elim hq'
theorem Cr (c : ExC X.K C) (hi : findIn X.K (.ref C) "__init__" = some (some (.ref f))) (hf : isFn X.K (.ref f) = true) (hkp : keepIn X.K (.ref C) = true)
  (F : aM X.prog X.w X.K X.mg X.base CX k f fd ps sp) (hr : aP (k + 1) X.A) (hg : Gl X x) (hm : X.mg x = some (.ref C)) (hb : Binds X.K fd ps ds) (hd : Vals dvs ds) (hx : jM CX X E) (hps : ps.length <= 1000)
  (ha : PA X (e :: es) t) (hdb : (x == ("__debug__" : Str)) = false := by decide) (he : starEach (e :: es) X.env = (false, eval e X.env) :: starEach es X.env := by rfl) (hpl : (backTo pos (starEach es X.env)).any (·.1) = false := by rfl) :
  PE X (.Call (.Name x p) (e :: es) [] pos) (Dg C sp dvs E t) := by
 intro pins s σ H Q I h
 refine wpAny_Call_Name_kw (lR I hg hm ?_ hdb)
 refine callWith_K (h₀ := X.base) I.ok.mod.kin hkp (thn (ha pos pins s σ H _ I h) fun us s1 ⟨vs, H1, I1, r, q⟩ => ⟨I1.kIn, ?_⟩) he hpl
 exact Aj c hi hf F hr hb hd hx I1 r hps q
end
def nZ (es : Array DictEntry) : Bool := es.toList.all fun e => match e.key with | .str _ _ => true | _ => false
theorem yq {es : Array DictEntry} (e : nZ es = true) : StrKeys es := by
 intro d hd
 have := all_eq_true.mp e d (Array.mem_toList_iff.mpr hd)
 split at this
 ·rename_i x t q; exact ⟨x, t, q⟩
 ·cases this
theorem Oe {K : Frag} {N : Addr} {oN : Value} {dN : Option Addr} {es : Array DictEntry} {nn : Nat} {sl : Array (Option Value)} {h : Heap} (X : K.In h) (l : K.lookup N = some ⟨oN, dN, .dict es nn, sl⟩) (e : nZ es = true) : h.Ns N (nsFind es) :=
 ⟨_, es, nn, X _ _ l, rfl, yq e, fun _ => rfl⟩
section
variable {K : Frag} {C D N HE M : Addr} {nm q nm' q' : Str} {bs bs' bm bm' : List Value} {sn sn' : List Str} {sub sub' : List Value} {ab ab' hdct hdct' : Bool} {col col' : Option Bool} {dd dd' : Option Addr} {k0 k1 k2 k3 k5 j0 j1 j2 j3 j5 : Option Value} {oN : Value} {dN : Option Addr} {es : Array DictEntry} {nn : Nat} {sl : Array (Option Value)} {i i' : String}
theorem HH (l : K.lookup HE = some (excClassObj nm q HE N bs rT hdct sn sub ab col dd k0 k1 k2 k3 k5 "ValueError.__new__")) : ExC K HE :=
 ⟨_, _, _, _, _, _, _, _, _, _, _, _, _, _, _, _, l, fun h X => .base⟩
theorem Gg (l : K.lookup HE = some (excClassObj nm q HE N bs rT hdct sn sub ab col dd k0 k1 k2 k3 k5 i)) (n : K.lookup N = some ⟨oN, dN, .dict es nn, sl⟩) (e : nZ es = true) (hi : nsFind es "__init__" = none)
  (l' : K.lookup C = some (excClassObj nm' q' C M bs' (.ref HE :: rT) hdct' sn' sub' ab' col' dd' j0 j1 j2 j3 j5 "ValueError.__new__")) : ExC K C :=
 ⟨_, _, _, _, _, _, _, _, _, _, _, _, _, _, _, _, l', fun h X => .own (X _ _ l) (Oe X n e) hi .base⟩
theorem rB (l : K.lookup C = some (excClassObj nm q C N bs bm hdct sn sub ab col dd k0 k1 k2 k3 k5 i)) : ∃ cd, clsIn K C = some cd /\ cd.mro = .ref C :: bm /\ cd.hasDict = hdct := ⟨_, by unfold clsIn; rw [l], rfl, rfl⟩
theorem yx {b : Value} (l : K.lookup C = some (excClassObj nm q C N bs bm hdct sn sub ab col dd k0 k1 k2 k3 k5 i)) : mroIn K C b = some ((Value.ref C :: bm).contains b) := by
 obtain ⟨cd, h1, h2, _⟩ := rB l
 unfold mroIn
 rw [h1, bind_some, h2, if_neg Z2]
theorem Fy (l : K.lookup C = some (excClassObj nm q C N bs bm hdct sn sub ab col dd k0 k1 k2 k3 k5 i)) (l' : K.lookup D = some (excClassObj nm' q' D M bs' bm' hdct' sn' sub' ab' col' dd' j0 j1 j2 j3 j5 i')) :
  kitOne K (.ref C) (.ref D) = some ((Value.ref C :: bm).contains (.ref D)) := by
 unfold kitOne
 by_cases e : (Value.ref C == Value.ref D) = true
 ·rw [if_pos e, eq_of_beq e]; simp
 ·rw [if_neg e]
  obtain ⟨cd, h1, _⟩ := rB l'
  have h2 : typeIn K (.ref D) = some (.type "type") := by show (K.lookup D).map (·.cls) = _; rw [l']; rfl
  show (if ((clsIn K D).isSome && typeIn K (.ref D) == some (.type "type")) = true then mroIn K C (.ref D) else none) = _
  rw [h1, h2, if_pos Z2, yx l]
theorem GQ (l : K.lookup C = some (excClassObj nm q C N bs bm true sn sub ab col dd k0 k1 k2 k3 k5 i)) (hb : b8 bm = true) (hbe : bm.contains (.type "BaseException") = true)
  (ga : findIn K (.ref C) "__getattribute__" = some (some (.builtin "BaseException.__getattribute__"))) (nga : findIn K (.ref C) "__getattr__" = some none)
  (sa : findIn K (.ref C) "__setattr__" = some (some (.builtin "object.__setattr__"))) (cl : findIn K (.ref C) "__class__" = some (some (.builtin "object.__class__")))
  (cg : specialIn K (.builtin "object.__class__") "__get__" = some (some (.builtin "getset_descriptor.__get__"))) (ct : takesIn K (.builtin "object.__class__") = some true) : Fz K C := by
 obtain ⟨cd, h1, h2, h3⟩ := rB l
 refine ⟨ga, ?_, nga, ?_, ?_, ?_, sa, cl, cg, ct⟩
 ·rw [yx l, contains_cons, hbe, Bool.or_true]
 ·rw [yx l, contains_cons, nF hb, Bool.or_true]
 ·unfold hasDictIn; rw [h1]; exact h3
 ·unfold vP; rw [h1]; show b8 cd.mro = true; rw [h2, nu]; exact hb
end
structure XIn (K : Frag) (C : Addr) (qual : Str) (st : Stmt) (ps : List Str) (f : Addr) (fd : FuncData) : Prop where
 F : Fun K "__init__" qual st f fd
 b : Binds K fd ps []
 i : findIn K (.ref C) "__init__" = some (some (.ref f))
 fn : isFn K (.ref f) = true
 kp : keepIn K (.ref C) = true
 sm : ps.length <= 1000
section
variable {X : Cx} {k : Nat} {f C : Addr} {fd : FuncData} {ps : List Str} {sp : Sp} {x qual : Str} {st : Stmt} {p pos pos' : Pos} {e o value : Expr} {es : List Expr} {t : TA} {ta tv : TE} {g : Str}
theorem Ow (A : XIn X.K C qual st ps f fd) (G : aM X.prog X.w X.K X.mg X.base CX0 k f fd ps sp) (hr : aP (k + 1) X.A) (hm : X.mg x = some (.ref C)) (c : ExC X.K C) (ha : PA X (e :: es) t) (hg : Gl X x := by rfl)
  (hdb : (x == ("__debug__" : Str)) = false := by decide) (he : starEach (e :: es) X.env = (false, eval e X.env) :: starEach es X.env := by rfl) (hpl : (backTo pos (starEach es X.env)).any (·.1) = false := by rfl) :
  PE X (.Call (.Name x p) (e :: es) [] pos) (Dg C sp [] E0 t) := Cr c A.i A.fn A.kp G hr hg hm A.b .nil qP A.sm ha hdb he hpl
theorem Dh (ha : PE X o ta) (hv : PE X value tv) (hs : swapsWith value (some (.Attribute o g pos')) pos.line X.env = pure false := by rfl) : QS X (.Assign [.Attribute o g pos'] value pos) (Eg X.K ta tv g) := ⟨Ex ha hv hs⟩
end
structure uf (fr : List Addr) (e : Addr) (old : Option Addr) (h h' : Heap) : Prop where
 keep : ∀ b o, h.get? b = some o -> b ≠ e -> some b ≠ old -> b ∉ fr -> h'.get? b = some o
 slot : ∀ b o, h.get? b = some o -> b ≠ e -> some b ≠ old -> ∃ sl, h'.get? b = some { o with slots := sl }
 there : ∀ b o, h.get? b = some o -> ∃ o', h'.get? b = some o'
 size : h.objs.size <= h'.objs.size
def wA (h : Heap) (T : Addr) : Prop := ∃ oT ts, h.get? T = some oT /\ oT.data = .fields ts /\ ts[3]? = some .none
theorem Jm {o : Obj} {vs : Array Value} (hd : o.data = .fields vs) (f : Array Value -> Array Value) : Obj.mapFields f o = { o with data := .fields (f vs) } := by
 obtain ⟨c, d, dt, sl⟩ := o
 cases (show dt = .fields vs from hd)
 rfl
theorem vV {o : Obj} {vs : Array Value} (hd : o.data = .fields vs) : o.isFreed = false := Obj.isFreed_of_fields hd
section
variable {M : Model} {A : Around} {E : Value -> Shared -> Prop} {s : Shared} {base : Heap} {env : Env} {outer : List Env} {L e : Addr} {oe : Obj} {vs : Array Value} {Q : Unit -> Shared -> Prop}
theorem yW {head : Value} {nx : Bool} (hfr : A.frames = some (env :: outer)) (hl : s.heap.FunFrames base (env :: outer)) (hf : env.frame = some L) (he : s.heap.get? e = some oe) (hd : oe.data = .fields vs) (hsz : 1 < vs.size)
  (h : ∀ h' T, uf (frs (env :: outer)) e none s.heap h' -> h'.get? e = some { oe with data := .fields (vs.setIfInBounds 1 (.ref T)) } -> s.heap.objs.size <= T -> wA h' T -> Q () { s with heap := h' }) :
  wpAny M A (do
   let a <- frameOf env
   let pl <- entryPlaceOf L nx
   let b <- EntryCells.newEntry head a .none (rawInt L) .none pl
   setField (.ref e) 1 b) (fun _ s' => wpAny M A (setFlight (.ref e) none) Q E s') E s := by
 have en : e ∉ frs (env :: outer) := fun hm => by
  obtain ⟨_, o, ho, hn⟩ := hl.mem hm
  rw [he] at ho; cases ho; exact hn vs hd
 have elt : e < s.heap.objs.size := Heap.lt_size he
 refine wpAny_bind (wpAny_frameOf_fun hfr hl hf fun g1 G1 => ?_)
 refine wpAny_bind (wpAny_entryPlaceOf fun pl hpl => ?_)
 unfold EntryCells.newEntry newFields
 refine wpAny_bind (wpAny_newObj_type ?_ (hpl.sizeOk5 _ _ _ _ _))
 have e1 : g1.get? e = some oe := (G1.2.1 e en).trans he
 have z1 : g1.objs.size = s.heap.objs.size := G1.1
 have hts : (([head, .ref L, .none, rawInt L, .none] ++ (if pl.isEmpty then List.replicate 6 Value.none else pl)).toArray : Array Value).size > 3 := by
  simp only [size_toArray, length_append, length_cons, List.length_nil]
  omega
 generalize (([head, .ref L, .none, rawInt L, .none] ++ (if pl.isEmpty then List.replicate 6 Value.none else pl)).toArray : Array Value) = tv at hts
 have t2 := Heap.get?_push_size g1 (o := { cls := .type "traceback", dict := none, data := .fields tv }) rfl
 have k2 : ∀ b o, g1.get? b = some o -> (g1.push { cls := .type "traceback", dict := none, data := .fields tv }).get? b = some o := fun b o q => Heap.get?_push_of_some _ q
 have z2 : (g1.push { cls := .type "traceback", dict := none, data := .fields tv }).objs.size = g1.objs.size + 1 := Heap.size_push _ _
 generalize g1.push { cls := .type "traceback", dict := none, data := .fields tv } = g2 at t2 k2 z2
 have Tne : g1.objs.size ≠ e := ne_of_gt (by rw [z1]; exact elt)
 refine wpAny_setField (k2 _ _ e1) hd hsz ?_
 have e3 := Heap.get?_update_self (h := g2) (Obj.mapFields (·.setIfInBounds 1 (Value.ref g1.objs.size))) (k2 _ _ e1) (by rw [Jm hd]; exact vV rfl)
 rw [Jm hd] at e3
 have o3 : ∀ b, b ≠ e -> (g2.update e (Obj.mapFields (·.setIfInBounds 1 (Value.ref g1.objs.size)))).get? b = g2.get? b := fun b hb => Heap.get?_update_other _ _ (Ne.symm hb)
 have z3 : (g2.update e (Obj.mapFields (·.setIfInBounds 1 (Value.ref g1.objs.size)))).objs.size = g2.objs.size := by cases g2; simp [Heap.update]
 generalize g2.update e (Obj.mapFields (·.setIfInBounds 1 (Value.ref g1.objs.size))) = g3 at e3 o3 z3
 unfold setFlight
 refine wpAny_bind (wpAny_field e3 rfl (x := .ref g1.objs.size) (by simp [hsz]) ?_)
 rw [if_pos (show (Value.ref g1.objs.size != Value.none) = true from by simp)]
 have t3 := (o3 _ Tne).trans t2
 refine wpAny_setField t3 rfl hts ?_
 have t4 := Heap.get?_update_self (h := g3) (Obj.mapFields (·.setIfInBounds 3 ((none : Option Addr).elim Value.none fun f => rawInt f))) t3 (vV rfl)
 have o4 : ∀ b, b ≠ g1.objs.size -> (g3.update g1.objs.size (Obj.mapFields (·.setIfInBounds 3 ((none : Option Addr).elim Value.none fun f => rawInt f)))).get? b = g3.get? b := fun b hb => Heap.get?_update_other _ _ (Ne.symm hb)
 have z4 : (g3.update g1.objs.size (Obj.mapFields (·.setIfInBounds 3 ((none : Option Addr).elim Value.none fun f => rawInt f)))).objs.size = g3.objs.size := by cases g3; simp [Heap.update]
 generalize g3.update g1.objs.size (Obj.mapFields (·.setIfInBounds 3 ((none : Option Addr).elim Value.none fun f => rawInt f))) = g4 at t4 o4 z4
 have all : ∀ b o, b ≠ e -> g1.get? b = some o -> g4.get? b = some o := fun b o hb q => by
  rw [o4 b (ne_of_lt (Heap.lt_size q)), o3 b hb]; exact k2 b o q
 have e4 : g4.get? e = some { oe with data := .fields (vs.setIfInBounds 1 (.ref g1.objs.size)) } := (o4 e (Ne.symm Tne)).trans e3
 refine h g4 g1.objs.size ⟨fun b o q hb _ hn => all b o hb ((G1.2.1 b hn).trans q), fun b o q hb _ => ?_, fun b o q => ?_, Z1⟩ e4 Z1 ⟨_, _, t4, rfl, by simp [hts]⟩
 ·obtain ⟨sl, q1⟩ := G1.2.2 b o q
  exact ⟨sl, all b _ hb q1⟩
 ·by_cases hb : b = e
  ·subst hb; exact ⟨_, e4⟩
  ·obtain ⟨sl, q1⟩ := G1.2.2 b o q
   exact ⟨_, all b _ hb q1⟩
theorem yg (hfr : A.frames = some (env :: outer)) (hl : s.heap.FunFrames base (env :: outer)) (hf : env.frame = some L) (he : s.heap.get? e = some oe) (hd : oe.data = .fields vs) (h1 : vs[1]? = some .none)
  (h : ∀ h' T, uf (frs (env :: outer)) e none s.heap h' -> h'.get? e = some { oe with data := .fields (vs.setIfInBounds 1 (.ref T)) } -> s.heap.objs.size <= T -> wA h' T -> Q () { s with heap := h' }) :
  wpAny M A (noteFrame (.ref e) env) (fun _ s' => wpAny M A (setFlight (.ref e) none) Q E s') E s := by
 unfold noteFrame
 simp only [hf]
 refine wpAny_bind (wpAny_field he hd h1 ?_)
 rw [if_neg Z0]
 exact yW hfr hl hf he hd (Array.getElem?_eq_some_iff.mp h1).1 h
theorem Br {T0 : Addr} (hfr : A.frames = some (env :: outer)) (hl : s.heap.FunFrames base (env :: outer)) (hf : env.frame = some L) (he : s.heap.get? e = some oe) (hd : oe.data = .fields vs) (h1 : vs[1]? = some (.ref T0)) (hT : wA s.heap T0) (hne : T0 ≠ e)
  (h : ∀ h' T, uf (frs (env :: outer)) e (some T0) s.heap h' -> h'.get? e = some { oe with data := .fields (vs.setIfInBounds 1 (.ref T)) } -> s.heap.objs.size <= T -> wA h' T -> Q () { s with heap := h' }) :
  wpAny M A (noteFrame (.ref e) env) (fun _ s' => wpAny M A (setFlight (.ref e) none) Q E s') E s := by
 obtain ⟨oT, ts, hT, hdT, h3⟩ := hT
 unfold noteFrame
 simp only [hf]
 refine wpAny_bind (wpAny_field he hd h1 ?_)
 rw [if_pos (show (Value.ref T0 != Value.none) = true from by simp)]
 refine wpAny_bind (wpAny_field hT hdT h3 ?_)
 rw [if_neg (show ¬ ((Value.none == rawInt L) = true) from by simp [rawInt])]
 refine wpAny_bind (wpAny_setField hT hdT (Array.getElem?_eq_some_iff.mp h3).1 ?_)
 have Tf : T0 ∉ frs (env :: outer) := fun hm => by
  obtain ⟨_, o, ho, hn⟩ := hl.mem hm
  rw [hT] at ho; cases ho; exact hn ts hdT
 have t1 := Heap.get?_update_self (h := s.heap) (Obj.mapFields (·.setIfInBounds 3 Value.none)) hT (by rw [Jm hdT]; exact vV rfl)
 have o1 : ∀ b, b ≠ T0 -> (s.heap.update T0 (Obj.mapFields (·.setIfInBounds 3 Value.none))).get? b = s.heap.get? b := fun b hb => Heap.get?_update_other _ _ (Ne.symm hb)
 have z1 : (s.heap.update T0 (Obj.mapFields (·.setIfInBounds 3 Value.none))).objs.size = s.heap.objs.size := by cases s.heap; simp [Heap.update]
 generalize s.heap.update T0 (Obj.mapFields (·.setIfInBounds 3 Value.none)) = g at t1 o1 z1
 refine yW (s := { s with heap := g }) hfr (hl.of_keeps fun b o q hn => ⟨o, (o1 b fun z => ?_).trans q, rfl⟩) hf ((o1 e (Ne.symm hne)).trans he) hd (Array.getElem?_eq_some_iff.mp h1).1 fun h' T N x hz tb => h h' T ⟨fun b o q hb hT0 hn => ?_, fun b o q hb hT0 => ?_, fun b o q => ?_, le_trans (le_of_eq z1.symm) N.size⟩ x (le_trans (le_of_eq z1.symm) hz) tb
 ·subst z; rw [hT] at q; cases q; exact hn ts hdT
 ·exact N.keep b o ((o1 b fun z => hT0 (by rw [z])).trans q) hb Z2 hn
 ·exact N.slot b o ((o1 b fun z => hT0 (by rw [z])).trans q) hb Z2
 ·by_cases z : b = T0
  ·subst z; exact N.there _ _ t1
  ·exact N.there _ _ ((o1 b z).trans q)
end
theorem Df {P : Program} {w : World} {H : Hp} {h h' : Heap} {fr : List Addr} {x C : Addr} {dx old : Option Addr} (ok : HOk P w H h) (N : uf fr x old h h') (hx : H x = some (ExO false x C dx))
  (hx' : ∃ t0 a1 a2 a3 a4 a5, h'.get? x = some (bV C dx #[.ref t0, a1, a2, a3, a4, a5])) (hfr : ∀ b ∈ fr, H b = none) (hold : ∀ T, old = some T -> H T = none) : HOk P w H h' := fun a o e => by
 by_cases ha : a = x
 ·subst ha
  rw [hx] at e
  cases e
  obtain ⟨t0, a1, a2, a3, a4, a5, q⟩ := hx'
  exact rY q (fun z => by cases z)
 ·refine (ok a o e).stay (fun b u hb q => ?_) (fun _ q => q) fun _ _ q => q
  have hbn : ∃ v, H b = some v := by
   rcases hb with rfl | hb
   ·exact ⟨_, e⟩
   ·exact ⟨_, hb⟩
  obtain ⟨v, hv⟩ := hbn
  refine N.keep b u q (fun z => ?_) (fun z => ?_) (fun z => ?_)
  ·subst z
   rcases hb with z | hb
   ·exact ha z.symm
   ·rw [hx] at hb; cases hb
  ·have := hold b z.symm
   rw [hv] at this; cases this
  ·have := hfr b z
   rw [hv] at this; cases this
theorem Dn {fs fr : List Addr} {H0 H1 : Hp} {h0 h1 h2 : Heap} {x : Addr} {old : Option Addr} {o : HO} (u : Un fs [] H0 H1 h0 h1) (N : uf fr x old h1 h2) (hx : H1 x = some o)
  (hT : ∀ T, old = some T -> h0.objs.size <= T) (hfr : ∀ b ∈ fr, b ∈ fs \/ h0.objs.size <= b) : Un fs [] H0 H1 h0 h2 where
 keep := fun b ob q n hb he => by
  refine N.keep b ob (u.keep b ob q n hb he) (fun z => ?_) (fun z => ?_) (fun z => ?_)
  ·have := u.free b ob q n he
   rw [z, hx] at this; cases this
  ·exact absurd (Heap.lt_size q) (not_lt.mpr (hT b z.symm))
  ·rcases hfr b z with k | k
   ·exact hb k
   ·exact absurd (Heap.lt_size q) (not_lt.mpr k)
 slot := fun b ob q n hb he => by
  obtain ⟨sl, q1⟩ := u.slot b ob q n hb he
  obtain ⟨sl2, q2⟩ := N.slot b _ q1 (fun z => by have := u.free b ob q n he; rw [z, hx] at this; cases this) (fun z => absurd (Heap.lt_size q) (not_lt.mpr (hT b z.symm)))
  exact ⟨sl2, q2⟩
 free := u.free
 there := fun b ob q he => by
  obtain ⟨o', q1⟩ := u.there b ob q he
  exact N.there b o' q1
 tups := u.tups
 frzs := u.frzs
 tbls := u.tbls
def Fly (h : Heap) (x : Addr) (v : Value) : Prop := ∃ oe vs, h.get? x = some oe /\ oe.data = .fields vs /\ vs[1]? = some v
def CX1 (P : Program) (w : World) : CXT := fun outer H s E e s' => ∃ x C dx T H', e = .ref x /\ s'.os = s.os /\ AllBare s'.gens /\ Un (frs outer) [] H H' s.heap s'.heap /\ HOk P w H' s'.heap /\ H' x = some (ExO false x C dx) /\
 Fly s'.heap x (.ref T) /\ wA s'.heap T /\ H' T = none /\ s.heap.objs.size <= T /\ E e none H'
section
variable {X : Cx} {pins : List (Addr × Obj)} {σ : St} {H H1 : Hp} {s s1 : Shared} {x C : Addr} {dx : Option Addr}
structure Rz (X : Cx) (pins : List (Addr × Obj)) (σ : St) (H1 : Hp) (s1 : Shared) (H : Hp) (x C : Addr) (dx : Option Addr) (T : Addr) (s : Shared) : Prop where
 pre : Inv X pins σ H1 s1
 os : s.os = s1.os
 bare : AllBare s.gens
 un : Un (frs X.stack) [] H1 H s1.heap s.heap
 hok : HOk X.prog X.w H s.heap
 at_ : H x = some (ExO false x C dx)
 fly : Fly s.heap x (.ref T)
 tb : wA s.heap T
 off : H T = none
 new : s1.heap.objs.size <= T
theorem Rz.inv {T : Addr} (r : Rz X pins σ H1 s1 H x C dx T s) : Inv X pins σ H s := r.pre.call' r.os r.un r.hok r.bare (fun b z => absurd z Z2)
theorem Mz {C : Addr} {dx : Option Addr} {t0 T : Addr} {a1 a2 a3 a4 a5 : Value} : ({ bV C dx #[.ref t0, a1, a2, a3, a4, a5] with data := .fields ((#[.ref t0, a1, a2, a3, a4, a5] : Array Value).setIfInBounds 1 (.ref T)) } : Obj) = bV C dx #[.ref t0, .ref T, a2, a3, a4, a5] := rfl
theorem Hk {old : Option Addr} {T : Addr} {h' : Heap} {t0 : Addr} {a2 a3 a4 a5 : Value} (hst : X.stack = X.env :: X.outer) (I : Inv X pins σ H1 s1) (os : s.os = s1.os) (bare : AllBare s.gens) (u : Un (frs X.stack) [] H1 H s1.heap s.heap) (hok : HOk X.prog X.w H s.heap) (hx : H x = some (ExO false x C dx)) (N : uf (frs (X.env :: X.outer)) x old s.heap h')
  (ex : h'.get? x = some (bV C dx #[.ref t0, .ref T, a2, a3, a4, a5])) (hT : s.heap.objs.size <= T) (hs : s1.heap.objs.size <= s.heap.objs.size) (tb : wA h' T) (hold : ∀ T0, old = some T0 -> H T0 = none /\ s1.heap.objs.size <= T0) : Rz X pins σ H1 s1 H x C dx T { s with heap := h' } where
 pre := I
 os := os
 bare := bare
 un := Dn u N hx (fun T0 e => (hold T0 e).2) fun b hb => .inl (by rw [hst]; exact hb)
 hok := by
  have fr : ∀ b ∈ frs (X.env :: X.outer), H b = none := fun b hb => by
   have hb : b ∈ frs X.stack := by rw [hst]; exact hb
   obtain ⟨_, o, ho, _⟩ := I.stack.mem hb
   exact u.free b o ho (I.stkFree b hb) Z2
  exact Df hok N hx ⟨_, _, _, _, _, _, ex⟩ fr fun T0 e => (hold T0 e).1
 at_ := hx
 fly := ⟨_, _, ex, rfl, rfl⟩
 tb := tb
 off := hok.fresh hT
 new := le_trans hs hT
theorem DG {h : Heap} {t0 : Addr} {a1 a2 a3 a4 a5 v : Value} (e : h.get? x = some (bV C dx #[.ref t0, a1, a2, a3, a4, a5])) (hf : Fly h x v) : (#[.ref t0, a1, a2, a3, a4, a5] : Array Value)[1]? = some v := by
 obtain ⟨oe, vs, e2, hd, h1⟩ := hf
 rw [e] at e2
 cases e2
 cases (show Data.fields #[.ref t0, a1, a2, a3, a4, a5] = .fields vs from hd)
 exact h1
theorem Ab {M : Model} {A : Around} {E : Value -> Shared -> Prop} {Q : Unit -> Shared -> Prop} (hA : A.frames = some X.stack) (hst : X.stack = X.env :: X.outer) (hfm : X.env.frame = some X.env.locals) (I : Inv X pins σ H1 s1) (os : s.os = s1.os) (bare : AllBare s.gens) (u : Un (frs X.stack) [] H1 H s1.heap s.heap) (hok : HOk X.prog X.w H s.heap)
  (hs : s1.heap.objs.size <= s.heap.objs.size) (hx : H x = some (ExO false x C dx)) (hf : Fly s.heap x .none \/ ∃ T0, Fly s.heap x (.ref T0) /\ wA s.heap T0 /\ H T0 = none /\ s1.heap.objs.size <= T0)
  (q : ∀ T s', Rz X pins σ H1 s1 H x C dx T s' -> Q () s') : wpAny M A (noteFrame (.ref x) X.env) (fun _ s' => wpAny M A (setFlight (.ref x) none) Q E s') E s := by
 obtain ⟨t0, a1, a2, a3, a4, a5, e, _⟩ := oF hok hx
 have fun2 : s.heap.FunFrames X.base (X.env :: X.outer) := by
  have f := (I.call' os u hok bare (fun b z => absurd z Z2)).stack
  rwa [hst] at f
 rcases hf with hf | ⟨T0, hf, hT0, hn, hz⟩
 ·refine yg (hA.trans (congrArg some hst)) fun2 hfm e rfl (DG e hf) fun h' T N ex hT tb => q T _ ?_
  exact Hk hst I os bare u hok hx N (ex.trans (congrArg some Mz)) hT hs tb fun T0 z => by cases z
 ·refine Br (hA.trans (congrArg some hst)) fun2 hfm e rfl (DG e hf) hT0 (aD hx hn).symm fun h' T N ex hT tb => q T _ ?_
  exact Hk hst I os bare u hok hx N (ex.trans (congrArg some Mz)) hT hs tb fun T1 z => by cases z; exact ⟨hn, hz⟩
end
section
variable {P : Program} {w : World} {K : Frag} {mg : Str -> Option Value} {base : Heap} {N : List Str} {qual : Str} {scope : Scope} {f : Addr} {cd : Value} {A : Around} {outer : List Env} {s : Shared} {H : Hp} {E E1 : XK}
theorem leave1 {pins : List (Addr × Obj)} {σ : St} {H1 : Hp} {s1 : Shared} {x C : Addr} {dx : Option Addr} (I : Inv (m9 (CX1 P w) P w K mg base N qual scope f cd A outer s H E) pins σ H1 s1) (hx : H1 x = some (ExO false x C dx)) (hf : Fly s1.heap x .none) (q : E (.ref x) none H1) :
  (m9 (CX1 P w) P w K mg base N qual scope f cd A outer s H E).xe (.ref x) s1 := by
 show wpAny _ _ (leaving _ _) _ _ _
 unfold leaving
 refine wpAny_bind (Ab (X := m9 (CX1 P w) P w K mg base N qual scope f cd A outer s H E) I.ok.frames rfl rfl I rfl I.bare Un.refl I.hok (le_refl _) hx (.inl hf) fun T s' r => ?_)
 exact ⟨x, C, dx, T, H1, rfl, r.inv.os, r.bare, r.inv.base, r.hok, hx, r.fly, r.tb, r.off, le_trans I.sz r.new, q⟩
theorem Nt (hE : ∀ e H', E1 e none H' -> E e none H') : jM (CX1 P w) (m9 (CX1 P w) P w K mg base N qual scope f cd A outer s H E) E1 := fun pins σ H1 s1 e s' I h => by
 obtain ⟨x, C, dx, T, H', rfl, os, bare, un, hok, hx, fl, tb, hn, hz, q⟩ := h
 show wpAny _ _ (leaving _ _) _ _ _
 unfold leaving
 have hs : s1.heap.objs.size <= s'.heap.objs.size := le_trans hz (le_of_lt (by obtain ⟨_, _, e, _⟩ := tb; exact Heap.lt_size e))
 refine wpAny_bind (Ab (X := m9 (CX1 P w) P w K mg base N qual scope f cd A outer s H E) I.ok.frames rfl rfl I os bare un hok hs hx (.inr ⟨T, fl, tb, hn, hz⟩) fun T2 s2 r => ?_)
 exact ⟨x, C, dx, T2, H', rfl, r.inv.os, r.bare, r.inv.base, r.hok, hx, r.fly, r.tb, r.off, le_trans I.sz r.new, hE _ _ q⟩
end
structure Ay (X : Cx) (W : St -> XK) : Prop where
 made : ∀ {pins : List (Addr × Obj)} {σ : St} {H : Hp} {s : Shared} {x C : Addr} {dx : Option Addr}, Inv X pins σ H s -> H x = some (ExO false x C dx) -> Fly s.heap x .none -> W σ (.ref x) none H -> X.xe (.ref x) s
 came : ∀ {pins : List (Addr × Obj)} {σ : St} {H : Hp} {s s' : Shared} {e : Value}, Inv X pins σ H s -> CX1 X.prog X.w X.stack H s (W σ) e s' -> X.xe e s'
theorem xm {P : Program} {w : World} {K : Frag} {mg : Str -> Option Value} {base : Heap} {N : List Str} {qual : Str} {scope : Scope} {f : Addr} {cd : Value} {A : Around} {outer : List Env} {s : Shared} {H : Hp} {E : XK} :
  Ay (m9 (CX1 P w) P w K mg base N qual scope f cd A outer s H E) (fun _ => E) :=
 ⟨fun I hx hf q => leave1 I hx hf q, fun {pins σ H1 s1 s' e} I h => Nt (fun _ _ q => q) pins σ H1 s1 e s' I h⟩
section
variable {X : Cx} {W : St -> XK} {k : Nat} {f C : Addr} {fd : FuncData} {ps : List Str} {sp : Sp} {x : Str} {st : Stmt} {p pos rpos : Pos} {e : Expr} {es : List Expr} {t : TA}
def Iu (sp : Sp) (W : St -> XK) (t : TA) : TE := fun σ H Q => t σ H fun vs H1 => sp vs H1 Q (W σ)
theorem zB {pins : List (Addr × Obj)} {σ : St} {H : Hp} {s : Shared} {Q : VK} {us : List Value} {vs : List V} (hw : Ay X W) (F : aM X.prog X.w X.K X.mg X.base (CX1 X.prog X.w) k f fd ps sp) (hr : aP k X.A) (hb : Binds X.K fd ps [])
  (I : Inv X pins σ H s) (r : Vals vs us) (h : sp vs H Q (W σ)) : wpAny (model X.prog X.w) X.A (call (.ref f) us) (EP X pins σ Q) X.xe s := by
 have hl : (us ++ []).length = ps.length := by rw [append_nil, <- r.length]; exact F.len _ _ _ _ h
 refine wpAny_call (codeAny_mono (F.run X.A X.stack s H ⟨us, []⟩ (us ++ []) vs Q (W σ) hr I.env0 (hb s us I.kIn hl) (by rw [append_nil]; exact r) h) fun r s' hq => ?_)
 cases r with
 | error e => exact hw.came I hq
 | ok fl =>
  cases fl with
  | ret u => exact I.after hq
  | next => exact False.elim hq
  | brk => exact False.elim hq
  | cont => exact False.elim hq
theorem Iv (A : FnAt X.K X.mg x st ps f fd) (F : aM X.prog X.w X.K X.mg X.base (CX1 X.prog X.w) k f fd ps sp) (hr : aP k X.A) (hw : Ay X W) (ha : PA X (e :: es) t) (hg : Gl X x := by rfl) (hdb : (x == ("__debug__" : Str)) = false := by decide) (he : starEach (e :: es) X.env = (false, eval e X.env) :: starEach es X.env := by rfl) (hpl : (backTo pos (starEach es X.env)).any (·.1) = false := by rfl) :
  PE X (.Call (.Name x p) (e :: es) [] pos) (Iu sp W t) := by
 intro pins s σ H Q I h
 refine wpAny_Call_Name_kw (lR I hg A.m ?_ hdb)
 refine callWith_K (h₀ := X.base) I.ok.mod.kin A.F.kp (thn (ha pos pins s σ H _ I h) fun us s1 ⟨vs, H1, I1, r, q⟩ => ⟨I1.kIn, ?_⟩) he hpl
 exact zB hw F hr A.b I1 r q
end
section
variable {P : Program} {w : World} {K : Frag} {mg : Str -> Option Value} {base : Heap}
theorem Fun.okX {x qual : Str} {st : Stmt} {f : Addr} {fd : FuncData} {N ps : List Str} {k : Nat} {sp : Sp} (F : Fun K x qual st f fd) (S : aH N ps (aC st)) (len : ∀ vs H Q E, sp vs H Q E -> vs.length = ps.length)
  (hbody : ∀ (cdv : Value) (A : Around) (outer : List Env) (s : Shared) (H : Hp) (vs : List V) (Q : VK) (E : XK), aP k (A.deeper (envOfC qual (aC st) s.heap.objs.size f cdv)) -> sp vs H Q E ->
   ∃ t, PSs (m9 (CX1 P w) P w K mg base N qual (aC st) f cdv A outer s H E) (bR st) t /\ t { nx := fun _ H' => Q .non H', rt := Q } (start N vs) H) : aM P w K mg base (CX1 P w) (k + 1) f fd ps sp := by
 obtain ⟨oc, od, kV, doc, pm, an, cdv, ct, osl, rfl, lk, hcd⟩ := F.ex
 exact Hg lk hcd S len fun A outer s H vs Q E hr h => hbody cdv A outer s H vs Q E hr h
end
section
variable {M : Model} {A : Around} {E : Value -> Shared -> Prop} {s : Shared} {env : Env}
theorem Bs {x : Sem Value} {Q : Flow -> Shared -> Prop} (hh : A.handled = none)
  (h : wpAny M A x (fun v s1 => ∃ e C dx vs, ∃ nm q N bs bm hdct sn sub ab col dd k0 k1 k2 k3 k5 nid, v = .ref e /\ s1.heap.get? C = some (excClassObj nm q C N bs bm hdct sn sub ab col dd k0 k1 k2 k3 k5 nid) /\ bm.contains (.type "BaseException") = true /\ s1.heap.get? e = some (bV C dx vs) /\ vs[1]? = some .none /\ E (.ref e) s1) E s) :
  wpAny M A (raiseStmt env (some x) none) Q E s := by
 unfold raiseStmt
 refine wpAny_bind (thn h fun v s1 hz => ?_)
 obtain ⟨e, C, dx, vs, nm, q, N, bs, bm, hdct, sn, sub, ab, col, dd, k0, k1, k2, k3, k5, nid, rfl, hC, hb, he, h1, hE⟩ := hz
 obtain ⟨hp, g, d, t, os⟩ := s1
 refine wpAny_bind (wpAny_pure ?_)
 have nt : ∀ {Q2 : Bool -> Shared -> Prop}, Q2 false ⟨hp, g, d, t, os⟩ -> wpAny M A (isType (.ref e)) Q2 E ⟨hp, g, d, t, os⟩ := fun {Q2} h2 => by
  unfold isType loadHead
  exact wpAny_bind (wpAny_loadPart he (wpAny_pure h2))
 refine wpAny_bind (wpAny_holding ?_)
 unfold excFromValue isExcClass isInstance
 refine wpAny_bind (wpAny_bind (nt ?_))
 rw [if_neg Z0]
 refine wpAny_pure ?_
 rw [if_neg Z0]
 refine wpAny_bind (wpAny_bind (wpAny_typeOf_ref he (wpAny_isSubtype_exc hC ?_)))
 rw [contains_cons, hb, Bool.or_true, if_pos rfl]
 refine wpAny_pure ?_
 dsimp only
 refine wpAny_bind (nt ?_)
 rw [if_neg Z0]
 unfold raisedInstance
 refine wpAny_bind (wpAny_bind (wpAny_typeOf_ref he (wpAny_bind (wpAny_typeOf_ref hC ?_))))
 rw [if_pos (show ((excClassObj nm q C N bs bm hdct sn sub ab col dd k0 k1 k2 k3 k5 nid).cls == Value.type "type") = true from by rfl)]
 refine wpAny_pure ?_
 unfold setFlight
 refine wpAny_bind (wpAny_bind (wpAny_field he rfl h1 ?_))
 rw [if_neg Z0]
 exact wpAny_pure (wpAny_raiseNew_none hh hE)
end
theorem Bq {h : Heap} {bm : List Value} (T : OwnTail h rT bm) : bm.contains (.type "BaseException") = true := by
 induction T with
 | base => rfl
 | own _ _ _ _ ih => rw [contains_cons, ih, Bool.or_true]
section
variable {X : Cx} {W : St -> XK} {pos : Pos} {e : Expr} {te : TE}
theorem Inv.flown {pins : List (Addr × Obj)} {σ : St} {H : Hp} {s : Shared} {x C : Addr} {dx : Option Addr} {fl : Bool} (I : Inv X pins σ H s) (hx : H x = some (ExO fl x C dx)) : Inv X pins σ (upd H x (ExO false x C dx)) s := by
 obtain ⟨t0, a1, a2, a3, a4, a5, e, _⟩ := oF I.hok hx
 exact I.write (x := x) (e := x) (o := ExO false x C dx) (t' := s.toks) (h' := s.heap) (by rw [hx]; exact True.intro) (.inl rfl) (fun b o hb q => q) ⟨_, e⟩ (rY e (fun z => by cases z))
def Hz (K : Frag) (W : St -> XK) (te : TE) : TS := fun _ σ H => te σ H fun v H1 => ∃ x C dx, v = .ref x /\ H1 x = some (ExO true x C dx) /\ ExC K C /\ W σ (.ref x) none (upd H1 x (ExO false x C dx))
theorem Cw (hw : Ay X W) (hc : X.calm = true) (he : PE X e te) : QS X (.Raise (some e) none pos) (Hz X.K W te) := ⟨by
 intro pins s σ H D I h
 rw [arm_exec_Raise]
 refine wpAny_bind (wpAny_standAt ?_)
 refine Bs (x := do let v <- eval e X.env; standAt pos; pure v) (I.ok.hd hc) (wpAny_bind (thn (he pins s σ H _ I h) fun u s1 hz => ?_))
 obtain ⟨vv, H1, I1, r, x, C, dx, rfl, hx, c, q⟩ := hz
 obtain rfl : u = Value.ref x := r
 obtain ⟨nm, q', N, bs, bm, hdct, sn, sub, ab, col, dd, k0, k1, k2, k3, k5, hcl, hT⟩ := c
 obtain ⟨t0, a1, a2, a3, a4, a5, e1, hn⟩ := oF I1.hok hx
 have h1 : (#[.ref t0, a1, a2, a3, a4, a5] : Array Value)[1]? = some .none := by rw [hn rfl]; rfl
 refine wpAny_bind (wpAny_standAt (wpAny_pure ⟨x, C, dx, _, nm, q', N, bs, bm, hdct, sn, sub, ab, col, dd, k0, k1, k2, k3, k5, _, rfl, I1.kIn _ _ hcl, Bq (hT _ I1.kIn), e1, h1, ?_⟩))
 exact hw.made (I1.flown hx) ak ⟨_, _, e1, rfl, h1⟩ q⟩
end
section
variable {M : Model} {A : Around} {E : Value -> Shared -> Prop} {s : Shared}
end
section
variable {X : Cx} {pins : List (Addr × Obj)} {σ : St} {H : Hp} {s : Shared}
end
section
variable {X : Cx} {pins pins' : List (Addr × Obj)} {σ : St} {H : Hp} {s : Shared} {E : Value -> Shared -> Prop} {x : Addr}
end
def Sub (K : Frag) (C D : Addr) : Prop := ∃ nm q N bs bm hdct sn sub ab col dd k0 k1 k2 k3 k5 nid, K.lookup C = some (excClassObj nm q C N bs bm hdct sn sub ab col dd k0 k1 k2 k3 k5 nid) /\ (Value.ref C :: bm).contains (.ref D) = true
section
variable {X : Cx} {pins : List (Addr × Obj)} {σ : St} {H0 H1 : Hp} {s0 s2 : Shared} {x C D T : Addr} {dx : Option Addr} {cx n : Str} {i : Nat} {np hpos pos : Pos} {b₀ : Stmt} {suite body orelse : List Stmt} {rest : List ExceptHandler} {ts to : TS} {En : Ends} {E : Value -> Shared -> Prop}
end
section
variable {X : Cx} {W : St -> XK} {k : Nat} {f C : Addr} {fd : FuncData} {ps : List Str} {sp : Sp} {m : Str} {p pos apos : Pos} {e o : Expr} {es : List Expr} {ta : TE} {t : TA}
def JB (C : Addr) (m : Str) (sp : Sp) (W : St -> XK) (ta : TE) (t : TA) : TE := fun σ H Q => ta σ H fun x H1 => ∃ a dx fs, x = .ref a /\ H1 a = some (.ins C dx fs) /\ fs.lookup m = none /\ t σ H1 fun vs H2 => sp (x :: vs) H2 Q (W σ)
theorem Ey {pl : Sem Bool} (he : PE X o ta) (c : Cls X.K C) (hm : Meth X.K C m f) (F : aM X.prog X.w X.K X.mg X.base (CX1 X.prog X.w) k f fd ps sp) (hr : aP k X.A) (hb : Binds X.K fd ps []) (hw : Ay X W) (ha : PA X (e :: es) t)
  (hst : starEach (e :: es) X.env = (false, eval e X.env) :: starEach es X.env := by rfl) (hpl : (backTo pos (starEach es X.env)).any (·.1) = false := by rfl)
  (ht : eval (.Call (.Attribute o m apos) (e :: es) [] pos) X.env = (do
   let ov <- eval o X.env
   standAt apos.atName
   let (f, first) <- holding [ov] (getMethod ov m pl)
   callWith pos f first (backTo pos (starEach (e :: es) X.env)) (backToKw pos (keywordEach [] X.env))) := by rfl) :
  PE X (.Call (.Attribute o m apos) (e :: es) [] pos) (JB C m sp W ta t) := by
 intro pins s σ H Q I h
 refine methodCall_KW (pl := pl) (thn (he pins s σ H _ I h) fun u s1 ⟨x, H1, I1, rx, a, dx, fs, ex, ea, l, q⟩ => ?_) ht
 subst ex
 obtain rfl : u = Value.ref a := rx
 refine mO I1 ea c hm l ?_
 refine callWith_K (first := [.ref a]) (h₀ := X.base) I.ok.mod.kin hm.kp (thn (ha pos pins s1 σ H1 _ I1 q) fun us s2 ⟨vs, H2, I2, r, q2⟩ => ⟨I2.kIn, ?_⟩) hst hpl
 exact zB (us := .ref a :: us) (vs := .ref a :: vs) hw F hr hb I2 (.cons rfl r) q2
theorem wL : MtR X "str.count" (fun x vs H Q => ∃ z y, x = .str z /\ vs = [.str y] /\ Q (.int (Txt.count z y)) H) := by
 intro pins s σ H x vs v us Q I rx rv h
 obtain ⟨z, y, rfl, rfl, q⟩ := h
 obtain ⟨t, rfl⟩ := rx
 obtain ⟨u, rfl, t2, rfl⟩ := vals1 rv
 exact SC.count ⟨.int _, H, I.tok _, ⟨_, rfl⟩, q⟩
theorem FJ : Ay X (fun _ => E0) := ⟨fun _ _ _ q => q.elim, fun _ z => by obtain ⟨_, _, _, _, _, _, _, _, _, _, _, _, _, _, _, q⟩ := z; exact q.elim⟩
theorem lG {K : Frag} (h : X.K = K) : OpR X (compareOp .In) (rIn K false) := by subst h; exact pH
theorem vz {K : Frag} {m : Str} (h : X.K = K) (he : PE X e ta) (hb : attributeBase e m X.env (eval e X.env) = eval e X.env) : PE X (.Attribute e m pos) (Rx K ta m) := by subst h; exact cY he hb
theorem vZ : ∀ {ys : List Str} {us : List Value}, Vals (ys.map V.str) us -> StrsAre us ys
 | [], _, h => by cases h; exact .nil
 | y :: ys, _, h => by
  cases h with
  | cons r t =>
   obtain ⟨tk, rfl⟩ := r
   exact .cons y tk (vZ t)
theorem sI : ∀ {ys : List Str} {us : List Value}, StrsAre us ys -> Vals (ys.map V.str) us
 | _, _, .nil => .nil
 | _, _, .cons y t h => .cons ⟨t, rfl⟩ (sI h)
theorem dU : kE X (.builtin "sorted") (fun xs H Q => ∃ p ys, xs = [.ref p] /\ SqL X.K H p (ys.map V.str) /\ ys.length < 64 /\ ∀ l ys', ys'.Perm ys -> sortedS ys' = true -> H l = none -> Q (.ref l) (upd H l (.lst (ys'.map V.str)))) := by
 intro pins s σ H xs us Q I r h
 obtain ⟨p, ys, rfl, hl, hn, q⟩ := h
 obtain ⟨u, rfl, ru⟩ := vals1 r
 obtain rfl : u = Value.ref p := ru
 obtain ⟨its, hv, hp, _⟩ := I.list hl
 have hlen : its.length = ys.length := by have := hv.length; rw [length_map] at this; exact this.symm
 refine sorted_strs hp.isList (vZ hv) Z1 fun out ss' h1 h2 h3 => ?_
 obtain ⟨e, he⟩ := sortedAll_at s.heap its out
 have hz : (ss'.map V.str).length <= sizeLine := by rw [length_map, h2.length_eq]; exact le_trans (le_of_lt hn) Z0
 refine ⟨.ref (s.heap.objs.size + 1), _, I.laid (a := s.heap.objs.size + 1) (o := .lst (ss'.map V.str)) (t' := s.toks) (fun b o z => sortedAll_old z) (le_succ _) ?_, rfl, q _ ss' h2 h3 (I.hok.fresh (le_succ _))⟩
 exact ⟨hz, out.toList, e, sI h1, by simpa [seqObj] using he⟩
end
section
variable {X : Cx} {W : St -> XK} {k : Nat} {f C : Addr} {fd : FuncData} {ps : List Str} {sp : Sp} {x : Str} {p p2 pos : Pos} {e stp : Expr} {es : List Expr} {te tf : TE} {tk : TO} {t : TA}
def TY (K : Frag) (te : TE) (tk : TO) : TE := fun σ H Q => te σ H fun x H1 => tk σ H1 fun o H2 => ∃ a xs, x = .ref a /\ o = some (-1) /\ SqL K H2 a xs /\ ∀ p, H2 p = none -> Q (.ref p) (upd H2 p (.lst xs.reverse))
theorem Vals.rev {xs : List V} {us : List Value} (r : Vals xs us) : Vals xs.reverse us.reverse := by
 induction r with
 | nil => exact .nil
 | cons a b ih => rw [reverse_cons, reverse_cons]; exact ih.append (.cons a .nil)
theorem Ik (he : PE X e te) (hk : PO X (some stp) tk) : PE X (.Subscript e (.Slice none none (some stp) p2) pos) (TY X.K te tk) := by
 intro pins s σ H Q I h
 refine Subscript_ (thn (he pins s σ H _ I h) fun v s1 ⟨x, H1, I1, r1, q1⟩ => ?_)
 refine wpAny_Slice ?_
 rw [evalPart_none]
 refine wpAny_pure ?_
 refine wpAny_pure ?_
 refine thn (hk pins s1 σ H1 _ I1 q1) fun vk s2 ⟨o, H2, I2, pk, a, xs, ex, eo, hx, q⟩ => ?_
 subst ex eo
 cases r1
 have I4 : Inv X pins σ H2 { s2 with heap := s2.heap.push { cls := .type "slice", data := .fields #[.none, .none, vk] } } := I2.kept (t' := s2.toks) fun b ob q => Heap.get?_push_of_some _ q
 obtain ⟨its, r, ht, hz⟩ := I4.list hx
 have hlen := r.length
 show wpAny (model X.prog X.w) X.A (subscriptTail e (.Slice none none (some stp) p2) (.ref a) (.ref s2.heap.objs.size)) (EP X pins σ Q) X.xe { s2 with heap := s2.heap.push { cls := .type "slice", data := .fields #[.none, .none, vk] } }
 refine tail_any (ops := [.ref a, .ref s2.heap.objs.size]) ht.isList.typeIs slot_list_getitem.lookup ?_ (by with_unfolding_all rfl)
 refine wpAny_getItem_list_slice ht.isList (Heap.IsSliceOf.new ..) .none .none pk Z0 ?_ (by rw [size_toArray] <;> omega)
 rw [krv_pick]
 refine ⟨.ref _, _, I4.laid (t' := s2.toks) (o := .lst xs.reverse) (fun b ob q => Heap.get?_push_of_some _ q) (le_refl _) ?_, rfl, q _ (I4.hok.fresh (le_refl _))⟩
 exact ⟨by rw [length_reverse]; exact hz, _, 0, r.rev, Heap.get?_push_size _ rfl⟩
end
theorem Fe {P : Program} {w : World} {z : Str} {u : Value} (h : (bQ P w).is (.inr z) u = true) : ∃ t, u = .str z t := Value.isStrOf_shape (x := z) (v := u) h
theorem rG : ∀ {us : List Value} {ks : List Str}, us.length = ks.length -> (∀ (j : Nat) v k, us[j]? = some v -> ks[j]? = some k -> ∃ t, v = .str k t) -> StrsAre us ks
 | [], [], _, _ => .nil
 | u :: us, k :: ks, hl, h => by
  obtain ⟨t, rfl⟩ := h 0 u k rfl rfl
  exact .cons k t (rG (by simpa using hl) fun j v k' e1 e2 => h (j + 1) v k' e1 e2)
 | [], _ :: _, hl, _ => by simp at hl
 | _ :: _, [], hl, _ => by simp at hl
section
variable {prog : Program} {w : World} {A : Around} {E : Value -> Shared -> Prop} {s : Shared}
theorem wR {d : Addr} {kvs : List (Key × Value)} {ks : List Str} {Q : Value -> Shared -> Prop} (hh : A.handled = none) (lo : (d == sysModules) = false) (hD : s.heap.DictOf (bQ prog w) d kvs) (hk : kvs.map (·.1) = ks.map Sum.inr) (h64 : ks.length < 64)
  (h : ∀ (h1 h' : Heap) (tk : Nat) (out : Array Value) (ss' : List Str) (e : Nat), (∀ b o, s.heap.get? b = some o -> h1.get? b = some o) -> (∀ b o, h1.get? b = some o -> h'.get? b = some o) -> h'.get? h1.objs.size = some (seqObj "list" out e) -> StrsAre out.toList ss' -> ss'.Perm ks -> sortedS ss' = true -> Q (.ref h1.objs.size) { s with heap := h', toks := tk }) :
  wpAny (model prog w) A (call (.builtin "sorted") [.ref d]) Q E s := by
 obtain ⟨ep, hat⟩ := hD.dictAt
 have hlen : kvs.length = ks.length := by have := congrArg List.length hk; simpa using this
 have hsz : kvs.length <= sizeLine := le_trans (show kvs.length <= 64 by omega) Z0
 refine Calls.call_function_entry kind_sorted plain_sorted entry_sorted (args_sorted1 _) ?_
 unfold Builtin.«sorted»
 refine wpAny_bind (m := checkCount "sorted" 1 1 _) (wpAny_pure ?_)
 refine wpAny_bind (kdu_collect (A := A.in1) (kdl_dict (knd := bQ prog w) (kvs := kvs) (ep := ep) lo) hh hat hsz fun h' tk acc hk' hacc => ?_)
 have hl : acc.toList.length = kvs.length := by rw [length_toList]; exact hacc.1
 have hS : StrsAre acc.toList ks := rG Z1 fun j v k e1 e2 => by
  obtain ⟨k2, x, e3, e4⟩ := hacc.2 j v (by rw [<- Array.getElem?_toList]; exact e1)
  have e5 : (kvs.map (·.1))[j]? = some k2 := by rw [getElem?_map, e3]; rfl
  rw [hk, getElem?_map, e2] at e5
  cases e5
  exact Fe e4
 refine wpAny_bind (wpAny_newList ?_ (by rw [hl]; exact hsz))
 have hoL : (h'.push (seqObj "list" acc.toList.toArray 0)).get? h'.objs.size = some (seqObj "list" acc.toList.toArray 0) := Heap.get?_push_size _ rfl
 refine wpAny_bind (wpAny_holding (wpAny_call_entry slot_list_sort ⟨_, hoL, rfl⟩ entry_list_sort (list_sort_treeK strKind_oneLt hoL hS.keysOf (fun v₁ v₂ rest e => keyKind_strs (by rw [<- e]; exact hS)) Z1 fun st' a1 a2 => ⟨_, rfl, ?_⟩) (args_list_sort _)))
 obtain ⟨ss', b1, b2, b3⟩ := sorted_out_str hS a1 a2
 obtain ⟨e, he⟩ := sortedHeap_at (out := (arrOf st').map (·.2)) hoL
 refine wpAny_pure ⟨_, rfl, h h' _ _ _ ss' e hk' (fun b o hb => ?_) he b1 b2 b3⟩
 have hlt := Heap.lt_size hb
 rw [sortedHeap_old (ne_of_lt hlt) (by rw [size_push']; exact Nat.lt_succ_of_lt hlt), Heap.get?_push_ne _ _ _ (ne_of_lt hlt)]
 exact hb
end
section
variable {X : Cx}
theorem zR : ∀ {kvs : List (Key × V)} {vs : List (Key × Value)}, KV kvs vs -> vs.map (·.1) = kvs.map (·.1) := by
 intro kvs vs r
 unfold KV at r
 induction r with
 | nil => rfl
 | cons h t ih => rw [map_cons, map_cons, ih, h.1]
theorem u6 (hc : X.calm = true) : kE X (.builtin "sorted") (fun xs H Q => ∃ p kvs ks, xs = [.ref p] /\ H p = some (.dK kvs) /\ kvs.map (·.1) = ks.map Sum.inr /\ ks.length < 64 /\ ∀ l ys', ys'.Perm ks -> sortedS ys' = true -> H l = none -> Q (.ref l) (upd H l (.lst (ys'.map V.str)))) := by
 intro pins s σ H xs us Q I r h
 obtain ⟨p, kvs, ks, rfl, hl, hk, hn, q⟩ := h
 obtain ⟨u, rfl, ru⟩ := vals1 r
 obtain rfl : u = Value.ref p := ru
 obtain ⟨_, lo, vs, rv, hD⟩ := G6 I.hok hl
 refine wR (I.ok.hd hc) lo hD (by rw [zR rv]; exact hk) hn fun h1 h' tk out ss' e k1 k2 he b1 b2 b3 => ?_
 have I1 : Inv X pins σ H { s with heap := h1, toks := tk } := I.kept (t' := tk) k1
 have hz : (ss'.map V.str).length <= sizeLine := by rw [length_map, b2.length_eq]; exact le_trans (le_of_lt hn) Z0
 refine ⟨.ref h1.objs.size, _, I1.laid (a := h1.objs.size) (o := .lst (ss'.map V.str)) (t' := tk) k2 (le_refl _) ?_, rfl, q _ ss' b2 b3 (I1.hok.fresh (le_refl _))⟩
 exact ⟨hz, out.toList, e, sI b1, by simpa [seqObj] using he⟩
end
def Itd (d : Addr) (o : Obj) (kvs : List (Key × V)) : It := ⟨fun i H => H d = some (.frz o (.dK kvs)) /\ i < kvs.length, fun i H x H' => H' = H /\ ∃ k v, kvs[i]? = some (k, v) /\ x = kV k, fun i H => H d = some (.frz o (.dK kvs)) /\ kvs.length <= i⟩
theorem Gq {P : Program} {w : World} {k : Key} {u : Value} (h : (bQ P w).is k u = true) : RelV (kV k) u := by
 rcases bK h with ⟨i, t, rfl, rfl⟩ | ⟨x, t, rfl, rfl⟩
 ·exact ⟨t, rfl⟩
 ·exact ⟨t, rfl⟩
theorem Ph : ∀ {kvs : List (Key × V)} {vs : List (Key × Value)}, KV kvs vs -> ∀ {i : Nat} {k : Key} {x : Value}, vs[i]? = some (k, x) -> ∃ v, kvs[i]? = some (k, v) := by
 intro kvs vs r
 unfold KV at r
 induction r with
 | nil => intro i k x e; simp at e
 | @cons p q ps qs h t ih =>
  intro i k x e
  cases i with
  | zero =>
   cases e
   have h1 : p.1 = k := h.1
   exact ⟨p.2, by rw [<- h1]; rfl⟩
  | succ i => exact ih e
theorem DR {kvs : List (Key × V)} {vs : List (Key × Value)} (r : KV kvs vs) : kvs.length = vs.length := by have := congrArg List.length (zR r); simpa using this.symm
theorem Bj {P : Program} {w : World} {K : Frag} {tg : Expr} {d it : Addr} {o : Obj} {kvs : List (Key × V)} {vs : List (Key × Value)} {ep : Nat} (hne : d ≠ it) (r : KV kvs vs) (ho : ∀ h : Heap, h.get? d = some o -> h.DictAt (bQ P w) d vs ep) :
  Turn P w K tg (Itd d o kvs) [it] it (fun i h => h.IsKeyIter it d i vs.length ep) where
 mem := by simp
 obj := fun i h st b hb => by
  have e : b = it := by simpa using hb
  subst e
  obtain ⟨o, e, c, d⟩ := st
  exact ⟨o, e, fun v z => by rw [d] at z; cases z⟩
 keep := fun i h h' st k => st.at fun o e => k it Z2 o e
 item := by
  intro X hP hw hK hc i pins s σ H E I hf st hg
  subst hP hw hK
  obtain ⟨hd, hi⟩ := hg
  obtain ⟨hget, _⟩ := (show bF X.prog X.w H s.heap d (.frz o (.dK kvs)) from I.hok d _ hd)
  obtain ⟨f0, f1, f2, f3, f4, f5⟩ := hf it Z2
  refine (Walks.dictKeys (I.ok.hd hc) it d hne vs ep).item i s _ E (by rw [<- DR r]; exact hi) ⟨st, ho _ hget⟩ fun v h' tk hp hst hk => ?_
  obtain ⟨k, x, hx, hkv⟩ := hp
  obtain ⟨y, hy⟩ := Ph r hx
  have I1 : Inv X pins σ H { s with heap := h', toks := tk } := I.turned (t' := tk) (fun b o hb e => hk b o (by simpa using hb) e) f0 f1 f3 f4 f5
  obtain ⟨o2, e2, c2, d2⟩ := id hst.1
  exact ⟨v, rfl, zx (s := { s with heap := h', toks := tk }) e2 c2 d2 Z0 ⟨kV k, H, I1, Gq hkv, ⟨rfl, k, y, hy, rfl⟩, hst.1, fun b hb => (hf b hb).1⟩⟩
 done := by
  intro X hP hw hK hc i pins s σ H E I hf st hg
  subst hP hw hK
  obtain ⟨hd, hi⟩ := hg
  obtain ⟨hget, _⟩ := (show bF X.prog X.w H s.heap d (.frz o (.dK kvs)) from I.hok d _ hd)
  obtain ⟨f0, f1, f2, f3, f4, f5⟩ := hf it Z2
  exact wpAny_pyNext_dict_end (I.ok.hd hc) st (ho _ hget) (by rw [List.getElem?_eq_none_iff, <- DR r]; exact hi) fun h' eb => ⟨rfl, I.turned (t' := s.toks) (fun b o hb e => eb b o hb e) f0 f1 f3 f4 f5⟩
 self := fun _ _ _ _ _ st h => wpAny_pyIter_keyiter st h
section
variable {X : Cx} {tg : Expr}
def Rk (tl : TE) : TI := fun σ H R => tl σ H fun x H1 => ∃ d kvs, x = .ref d /\ ((∃ o, H1 d = some (.frz o (.dK kvs)) /\ R (Itd d o kvs) H1) \/ (H1 d = some (.dK kvs) /\ ∀ o, R (Itd d o kvs) (upd H1 d (.frz o (.dK kvs)))))
theorem uP {l : Expr} {tl : TE} (hl : PE X l tl) : PI X tg l (Rk tl) := by
 intro pins s σ H R I h
 refine thn (hl pins s σ H _ I h) fun v s1 ⟨x, H1, I1, r1, q1⟩ => ?_
 obtain ⟨d, kvs, e, q⟩ := q1
 subst e
 cases r1
 obtain ⟨o, H2, hd, I2, q2⟩ : ∃ o H2, H2 d = some (.frz o (.dK kvs)) /\ Inv X pins σ H2 s1 /\ R (Itd d o kvs) H2 := by
  rcases q with ⟨o, hd, q⟩ | ⟨hd, q⟩
  ·exact ⟨o, H1, hd, I1, q⟩
  ·have hob := I1.hok d _ hd
   obtain ⟨z, lo, vs, rv, hD⟩ := (show bF X.prog X.w H1 s1.heap d (.dK kvs) from hob)
   obtain ⟨o, es, ep, ho, rest⟩ := id hD
   refine ⟨o, _, ak, I1.write (x := d) (e := d) (o := .frz o (.dK kvs)) (t' := s1.toks) (by rw [hd]; exact True.intro) (.inl rfl) (fun b u _ e => e) ⟨o, ho⟩ ⟨ho, z, lo, vs, rv, hD⟩, q o⟩
 obtain ⟨hget, z, lo, vs, rv, hD⟩ := (show bF X.prog X.w H2 s1.heap d (.frz o (.dK kvs)) from I2.hok d _ hd)
 obtain ⟨ep, hat⟩ := hD.dictAt
 refine wpAny_pyIter_dict lo hat ?_
 have hdl : d ≠ s1.heap.objs.size := ne_of_lt (Heap.lt_size hget)
 refine ⟨s1.heap.objs.size, [s1.heap.objs.size], _, _, H2, rfl, I2.kept (t' := s1.toks) fun b o e => Heap.get?_push_of_some _ e, Bj (vs := vs) (ep := ep) hdl rv (fun h e => ?_), ⟨_, Heap.get?_push_size _ rfl, rfl, rfl⟩, fun b hb => ?_, q2⟩
 ·obtain ⟨o2, es, ho2, rest⟩ := id hat
  rw [hget] at ho2
  cases ho2
  exact ⟨_, es, e, rest⟩
 ·have e : b = s1.heap.objs.size := by simpa using hb
  subst e
  exact I2.fpOk (le_refl _) (I2.hok.fresh (le_refl _))
end
theorem Ew {d : Addr} {o : Obj} {kvs : List (Key × V)} {g : TG} {tb : TS} {D : Ends} {σ : St} {H : Hp} (Pv : Nat -> St -> Hp -> Prop) (h0 : Pv 0 σ H) (hl : ∀ i σ H, i <= kvs.length -> Pv i σ H -> H d = some (.frz o (.dK kvs)))
  (hs : ∀ i k v σ H, kvs[i]? = some (k, v) -> Pv i σ H -> g (kV k) σ H fun σ2 H2 => tb { D with nx := Pv (i + 1), ct := Pv (i + 1), bk := D.nx } σ2 H2) (hd : ∀ σ H, Pv kvs.length σ H -> D.nx σ H) :
  ∃ W : Nat -> Nat -> St -> Hp -> Prop, (∃ m, W 0 m σ H) /\ ∀ i m σ H, W i m σ H ->
   ((Itd d o kvs).stop i H /\ D.nx σ H) \/ ((Itd d o kvs).go i H /\ ∃ N : St -> Hp -> Prop, (∀ σ' H', N σ' H' -> ∃ m', m' < m /\ W (i + 1) m' σ' H') /\ ∀ x H', (Itd d o kvs).yld i H x H' -> g x σ H' fun σ2 H2 => tb { D with nx := N, ct := N, bk := D.nx } σ2 H2) := by
 refine ⟨fun i m σ H => m = kvs.length - i /\ i <= kvs.length /\ Pv i σ H, ⟨kvs.length, Z2, zero_le _, h0⟩, ?_⟩
 rintro i m σ H ⟨rfl, hi, p⟩
 have q := hl i σ H hi p
 by_cases hlt : i < kvs.length
 ·refine .inr ⟨⟨q, hlt⟩, Pv (i + 1), fun σ' H' p' => ⟨kvs.length - (i + 1), Z1, rfl, hlt, p'⟩, fun x H' y => ?_⟩
  obtain ⟨e, k, v, hx, rfl⟩ := y
  subst e
  exact hs i k v σ _ hx p
 ·have e : i = kvs.length := by omega
  subst e
  exact .inl ⟨⟨q, le_refl _⟩, hd σ H p⟩
theorem rZ {d : Addr} {o : Obj} {kvs : List (Key × V)} {tf : TT} {te : TE} {τ0 : St} {H : Hp} {Fin : List V -> Hp -> Prop} (p : V -> Bool) (hn : kvs.length <= sizeLine) (hl : H d = some (.frz o (.dK kvs)))
  (htf : ∀ x H' (Q : Bool -> Hp -> Prop), x ∈ kvs.map (fun kv => kV kv.1) -> au H H' -> (∀ H'', au H' H'' -> Q (p x) H'') -> tf (τ0.set 0 (some x)) H' Q)
  (hte : ∀ x H' (Q : VK), x ∈ kvs.map (fun kv => kV kv.1) -> au H H' -> (∀ H'', au H' H'' -> Q x H'') -> te (τ0.set 0 (some x)) H' Q)
  (hfin : ∀ H', au H H' -> Fin ((kvs.map fun kv => kV kv.1).filter p) H') : oG (gq 0) tf te (Itd d o kvs) τ0 H Fin := by
 have hxl : (kvs.map fun kv => kV kv.1).length = kvs.length := length_map _
 have hxa : ∀ {i : Nat} {k : Key} {v : V}, kvs[i]? = some (k, v) -> (kvs.map fun kv => kV kv.1)[i]? = some (kV k) := fun {i k v} e => by rw [getElem?_map, e]; rfl
 generalize (kvs.map fun kv => kV kv.1) = xs at htf hte hfin hxl hxa
 refine ⟨fun i m τ ys H' => m = xs.length - i /\ i <= xs.length /\ ys = (xs.take i).filter p /\ au H H' /\ ∃ v, τ = τ0.set 0 v \/ τ = τ0, ⟨xs.length, rfl, zero_le _, rfl, au.refl _, none, .inr rfl⟩, ?_⟩
 rintro i m τ ys H' ⟨rfl, hi, rfl, sm, v, hτ⟩
 by_cases hlt : i < xs.length
 ·refine .inr ⟨⟨sm _ _ hl, Z1⟩, fun x H'' y => ?_⟩
  obtain ⟨e, k, v, hx, rfl⟩ := y
  subst e
  have hx := hxa hx
  have e2 : τ.set 0 (some (kV k)) = τ0.set 0 (some (kV k)) := by
   rcases hτ with rfl | rfl
   ·rw [set_set]
   ·rfl
  unfold gq
  rw [e2]
  have e3 : (xs.take (i + 1)).filter p = (xs.take i).filter p ++ (if p (kV k) = true then [kV k] else []) := by
   rw [List.take_add_one, hx, filter_append]
   congr 1
   show [kV k].filter p = _
   rw [filter_cons]
   rfl
  refine htf (kV k) H'' _ (mem_of_getElem? hx) sm fun H4 s4 => ?_
  cases hp : p (kV k) with
  | true =>
   rw [if_pos rfl]
   refine hte (kV k) H4 _ (mem_of_getElem? hx) (sm.trans s4) fun H5 s5 => ?_
   refine ⟨?_, xs.length - (i + 1), Z1, rfl, hlt, ?_, sm.trans (s4.trans s5), _, .inl rfl⟩
   ·have := length_filter_le p (xs.take i)
    rw [length_take] at this
    omega
   ·rw [e3, hp]; rfl
  | false =>
   rw [if_neg Z0]
   refine ⟨xs.length - (i + 1), Z1, rfl, hlt, ?_, sm.trans s4, _, .inl rfl⟩
   rw [e3, hp]; simp
 ·have e : i = xs.length := by omega
  subst e
  exact .inl ⟨⟨sm _ _ hl, Z1⟩, by have := hfin H' sm; rw [take_length]; exact this⟩
theorem iK : ∀ {ls ms : List Str}, ls.map V.str = ms.map V.str -> ls = ms
 | [], [], _ => rfl
 | [], _ :: _, h => by cases h
 | _ :: _, [], h => by cases h
 | l :: ls, m :: ms, h => by
  rw [map_cons, map_cons] at h
  obtain ⟨h1, h2⟩ := List.cons.inj h
  rw [V.str.inj h1, iK h2]
section
variable {X : Cx} {pins : List (Addr × Obj)} {σ : St} {H : Hp} {s : Shared}
theorem tW (I : Inv X pins σ H s) {a b : Addr} {ls ms : List Str} (ha : SqL X.K H a (ls.map V.str)) (hb : SqL X.K H b (ms.map V.str)) {A : Around} (hu : A.units < cLine) : SeqAt.EqAt A s (.ref a) (.ref b) (decide (ls = ms)) := by
 by_cases hab : a = b
 ·subst hab
  have e : ls = ms := iK (I.list_inj ha hb)
  rw [decide_eq_true e]
  exact SeqAt.EqAt.same _
 ·obtain ⟨us, r1, p1, _⟩ := I.list ha
  obtain ⟨ws, r2, p2, _⟩ := I.list hb
  have l1 := r1.length
  have l2 := r2.length
  rw [length_map] at l1 l2
  by_cases hl : ls.length = ms.length
  ·have := SeqAt.RcAt.lists (A := A) (s := s) (e := fun j => decide (ls[j]? = ms[j]?)) p1.isList p2.isList Z6 hu fun j h1 h2 => by
    have h1' : j < us.length := by simpa using h1
    have h2' : j < ws.length := by simpa using h2
    obtain ⟨x, ex, rx⟩ := r1.at h1'
    obtain ⟨y, ey, ry⟩ := r2.at h2'
    rw [getElem?_map] at ex ey
    cases e1 : ls[j]? with
    | none => rw [e1] at ex; cases ex
    | some z1 =>
     cases e2 : ms[j]? with
     | none => rw [e2] at ey; cases ey
     | some z2 =>
      rw [e1] at ex; rw [e2] at ey
      cases ex; cases ey
      obtain ⟨t, et⟩ := rx
      obtain ⟨t', et'⟩ := ry
      have := SeqAt.EqAt.str_str (A := A.in1) (s := s) z1 t z2 t'
      have ed : (z1 == z2) = decide (some z1 = some z2) := by
       by_cases k : z1 = z2
       ·subst k; simp
       ·rw [decide_eq_false (fun h => k (Option.some.inj h))]; simpa using k
      rw [ed] at this
      simpa [et, et'] using this
   have ea : (List.range us.toArray.size).all (fun j => decide (ls[j]? = ms[j]?)) = decide (ls = ms) := by
    by_cases k : ls = ms
    ·subst k; simp
    ·rw [decide_eq_false k, eq_false_iff]
     intro h
     refine k (ext_getElem? fun j => ?_)
     rw [all_eq_true] at h
     by_cases hj : j < us.length
     ·exact of_decide_eq_true (h j (by simpa using hj))
     ·rw [List.getElem?_eq_none Z1, List.getElem?_eq_none Z1]
   rw [ea] at this
   exact SeqAt.EqAt.of_refs hab this
  ·have := SeqAt.RcAt.lists_lengths (A := A) (s := s) p1.isList p2.isList Z6 hu
   rw [decide_eq_false (fun h => hl (congrArg List.length h))]
   exact SeqAt.EqAt.of_refs hab this
def zy (K : Frag) (H : Hp) (p : Addr) (lss : List (List Str)) : Prop := ∃ xs : List V, SqL K H p xs /\ xs.length = lss.length /\ ∀ (i : Nat) ls, lss[i]? = some ls -> ∃ b, xs[i]? = some (.ref b) /\ SqL K H b (ls.map V.str)
def Ut (K : Frag) (neg : Bool) : R2 := fun x y H Q => ∃ a p ls lss, x = .ref a /\ y = .ref p /\ SqL K H a (ls.map V.str) /\ zy K H p lss /\ Q (.bl (if neg then !decide (ls ∈ lss) else decide (ls ∈ lss))) H
theorem Iz (I : Inv X pins σ H s) {a p : Addr} {ls : List Str} {lss : List (List Str)} (ha : SqL X.K H a (ls.map V.str)) (hp : zy X.K H p lss) (hu : X.A.units + 1 < cLine) :
  ∃ (its : List Value) (e : Value -> Bool), s.heap.IsList p its.toArray /\ (∀ u ∈ its, SeqAt.EqAt X.A.in1 s u (.ref a) (e u) /\ SeqAt.EqAt X.A s u (.ref a) (e u)) /\ its.any e = decide (ls ∈ lss) := by
 classical
 obtain ⟨xs, hx, hxl, hxt⟩ := hp
 obtain ⟨its, r, pl, hz⟩ := I.list hx
 have hl := r.length
 have at_ : ∀ {j : Nat} {u : Value}, its[j]? = some u -> ∃ b ls', lss[j]? = some ls' /\ u = .ref b /\ SqL X.K H b (ls'.map V.str) := fun {j u} e => by
  have hj : j < its.length := (List.getElem?_eq_some_iff.mp e).1
  have hj2 : j < lss.length := by omega
  obtain ⟨b, eb, hb⟩ := hxt j _ (getElem?_eq_getElem hj2)
  obtain ⟨u', eu, ru⟩ := r.get eb
  rw [e] at eu
  cases eu
  exact ⟨b, _, getElem?_eq_getElem hj2, ru, hb⟩
 let e : Value -> Bool := fun u => decide (∃ b, u = .ref b /\ SqL X.K H b (ls.map V.str))
 have ee : ∀ {b : Addr} {ls' : List Str}, SqL X.K H b (ls'.map V.str) -> e (.ref b) = decide (ls' = ls) := fun {b ls'} hb => by
  by_cases k : ls' = ls
  ·subst k
   rw [decide_eq_true rfl]
   exact decide_eq_true ⟨b, rfl, hb⟩
  ·rw [decide_eq_false k]
   refine decide_eq_false fun ⟨b2, e2, h2⟩ => k ?_
   cases e2
   exact iK (I.list_inj hb h2)
 refine ⟨its, e, pl.isList, fun u hu2 => ?_, ?_⟩
 ·obtain ⟨j, hj, ej⟩ := getElem_of_mem hu2
  obtain ⟨b, ls', _, rfl, hb⟩ := at_ (j := j) (u := u) (by rw [getElem?_eq_getElem hj, ej])
  rw [ee hb]
  exact ⟨tW I hb ha (show X.A.units + 1 < cLine from hu), tW I hb ha Z1⟩
 ·by_cases k : ls ∈ lss
  ·rw [decide_eq_true k, List.any_eq_true]
   obtain ⟨j, hj, ej⟩ := getElem_of_mem k
   have hj2 : j < its.length := by omega
   obtain ⟨b, ls', e1, e2, hb⟩ := at_ (j := j) (u := its[j]) (getElem?_eq_getElem hj2)
   rw [getElem?_eq_getElem hj, ej] at e1
   cases e1
   exact ⟨_, getElem_mem hj2, by rw [e2, ee hb]; exact decide_eq_true rfl⟩
  ·rw [decide_eq_false k, any_eq_false]
   intro u hu2 he
   obtain ⟨j, hj, ej⟩ := getElem_of_mem hu2
   obtain ⟨b, ls', e1, rfl, hb⟩ := at_ (j := j) (u := u) (by rw [getElem?_eq_getElem hj, ej])
   rw [ee hb] at he
   exact k (of_decide_eq_true he ▸ mem_of_getElem? e1)
theorem uy {K : Frag} (hK : X.K = K) (hu : X.A.units + 64 < cLine) : OpR X (compareOp .NotIn) (Ut K true) := by
 subst hK
 intro pins s σ H x y v u Q I rx ry h
 obtain ⟨a, p, ls, lss, rfl, rfl, ha, hp, q⟩ := h
 cases rx; cases ry
 obtain ⟨its, e, hl, he, hany⟩ := Iz I ha hp Z1
 refine SeqAt.notIn_listAt e hl (fun w hw => ?_) ⟨.bl _, H, I, rfl, ?_⟩
 ·first | exact (he w (by simpa using hw)).1 | exact (he w (by simpa using hw)).2
 ·rw [show its.toArray.any e = its.any e by simp, hany]
  exact q
end
end L2
namespace Kn
section
variable {α : Type}
theorem vU [DecidableEq α] : ∀ {xs zs : List α}, xs.Nodup -> (∀ x ∈ xs, x ∈ zs) -> xs.length <= zs.length
 | [], _, _, _ => zero_le _
 | x :: xs, zs, h, hs => by
  have hx : x ∈ zs := hs x Z2
  have h2 : x ∉ xs := (nodup_cons.mp h).1
  have := vU (zs := zs.erase x) (nodup_cons.mp h).2 fun y hy => (List.mem_erase_of_ne (fun e : y = x => h2 (e ▸ hy))).mpr (hs y (mem_cons_of_mem _ hy))
  rw [List.length_erase_of_mem hx] at this
  have h3 := List.length_pos_of_mem hx
  rw [length_cons]
  omega
theorem uc : ∀ {zs : List α} {p q : α -> Bool}, (∀ x ∈ zs, p x = true -> q x = true) -> (zs.filter p).length <= (zs.filter q).length
 | [], _, _, _ => le_refl _
 | x :: zs, p, q, h => by
  have ih := uc (zs := zs) (p := p) (q := q) fun y hy => h y (mem_cons_of_mem _ hy)
  rw [filter_cons, filter_cons]
  by_cases hp : p x = true
  ·rw [if_pos hp, if_pos (h x Z2 hp), length_cons, length_cons]; omega
  ·rw [if_neg hp]
   split
   ·rw [length_cons]; omega
   ·exact ih
theorem t6 : ∀ {zs : List α} {p q : α -> Bool} {z : α}, (∀ x ∈ zs, p x = true -> q x = true) -> z ∈ zs -> q z = true -> p z = false -> (zs.filter p).length < (zs.filter q).length
 | [], _, _, _, _, hz, _, _ => by cases hz
 | x :: zs, p, q, z, h, hz, hq, hp => by
  have h' : ∀ y ∈ zs, p y = true -> q y = true := fun y hy => h y (mem_cons_of_mem _ hy)
  rw [filter_cons, filter_cons]
  by_cases e : x = z
  ·subst e
   rw [if_pos hq, if_neg (by rw [hp]; decide), length_cons]
   exact Nat.lt_succ_of_le (uc h')
  ·have ih := t6 h' ((mem_cons.mp hz).resolve_left (fun k => e k.symm)) hq hp
   by_cases hx : p x = true
   ·rw [if_pos hx, if_pos (h x Z2 hx), length_cons, length_cons]; omega
   ·rw [if_neg hx]
    split
    ·rw [length_cons]; omega
    ·exact ih
structure Kgr (zs : List α) (nb : α -> List α) (R : α -> α -> Prop) : Prop where
 nd : zs.Nodup
 cl : ∀ z ∈ zs, ∀ y ∈ nb z, y ∈ zs
 st : ∀ z y, y ∈ nb z -> R z y
 tr : ∀ x y z, R x y -> R y z -> R x z
open Classical in
noncomputable def knB (R : α -> α -> Prop) (z y : α) : Bool := decide (y = z \/ (R z y /\ R y z))
open Classical in
theorem lW {R : α -> α -> Prop} {z y : α} : knB R z y = true ↔ (y = z \/ (R z y /\ R y z)) := by unfold knB; exact decide_eq_true_iff
noncomputable def knot (zs : List α) (R : α -> α -> Prop) (z : α) : List α := zs.filter (knB R z)
theorem jj {zs : List α} {R : α -> α -> Prop} {z y : α} : y ∈ knot zs R z ↔ y ∈ zs /\ (y = z \/ (R z y /\ R y z)) := by
 unfold knot
 rw [mem_filter, lW]
theorem jk {zs : List α} {R : α -> α -> Prop} {z : α} (h : z ∈ zs) : z ∈ knot zs R z := jj.mpr ⟨h, .inl rfl⟩
theorem Gs {zs : List α} {nb : α -> List α} {R : α -> α -> Prop} (g : Kgr zs nb R) {z y : α} (h : y ∈ knot zs R z) : knot zs R y = knot zs R z := by
 obtain ⟨_, h⟩ := jj.mp h
 rcases h with rfl | ⟨h1, h2⟩
 ·rfl
 ·unfold knot
  refine filter_congr fun x _ => Bool.eq_iff_iff.mpr (lW.trans (Iff.trans ⟨fun k => ?_, fun k => ?_⟩ lW.symm))
  ·rcases k with rfl | ⟨k1, k2⟩
   ·exact .inr ⟨h1, h2⟩
   ·exact .inr ⟨g.tr _ _ _ h1 k1, g.tr _ _ _ k2 h2⟩
  ·rcases k with rfl | ⟨k1, k2⟩
   ·exact .inr ⟨h2, h1⟩
   ·exact .inr ⟨g.tr _ _ _ h2 k1, g.tr _ _ _ k2 h1⟩
open Classical in
noncomputable def isF (zs : List α) (R : α -> α -> Prop) (z : α) : Bool := decide ((knot zs R z).head? = some z)
noncomputable def dH (zs : List α) (R : α -> α -> Prop) : List (List α) := (zs.filter (isF zs R)).map (knot zs R)
open Classical in
theorem jA {zs : List α} {R : α -> α -> Prop} {z : α} : isF zs R z = true ↔ (knot zs R z).head? = some z := by unfold isF; exact decide_eq_true_iff
theorem xJ {zs : List α} {nb : α -> List α} {R : α -> α -> Prop} (g : Kgr zs nb R) {z f : α} (h : (knot zs R z).head? = some f) : isF zs R f = true /\ knot zs R f = knot zs R z /\ f ∈ zs := by
 have hm : f ∈ knot zs R z := List.mem_of_mem_head? h
 have e := Gs g hm
 exact ⟨jA.mpr (by rw [e]; exact h), e, (jj.mp hm).1⟩
theorem o8 {k : List α} {z : α} (h : z ∈ k) : ∃ f, k.head? = some f := by
 cases k with
 | nil => cases h
 | cons f t => exact ⟨f, rfl⟩
theorem vm {zs : List α} {nb : α -> List α} {R : α -> α -> Prop} (g : Kgr zs nb R) {k : List α} : k ∈ dH zs R ↔ ∃ z ∈ zs, k = knot zs R z := by
 unfold dH
 rw [mem_map]
 constructor
 ·rintro ⟨z, hz, rfl⟩
  exact ⟨z, (mem_filter.mp hz).1, rfl⟩
 ·rintro ⟨z, hz, rfl⟩
  obtain ⟨f, hf⟩ := o8 (jk (R := R) hz)
  obtain ⟨h1, h2, h3⟩ := xJ g hf
  exact ⟨f, mem_filter.mpr ⟨h3, h1⟩, h2⟩
theorem xK {zs : List α} {R : α -> α -> Prop} {lt : α -> α -> Prop} (h : zs.Pairwise lt) : (dH zs R).Pairwise fun k l => ∃ a b, k.head? = some a /\ l.head? = some b /\ lt a b := by
 unfold dH
 rw [List.pairwise_map]
 refine List.Pairwise.imp_of_mem (fun {a b} ha hb hab => ?_) (h.sublist List.filter_sublist)
 exact ⟨a, b, jA.mp (mem_filter.mp ha).2, jA.mp (mem_filter.mp hb).2, hab⟩
theorem Hs {zs : List α} {nb : α -> List α} {R : α -> α -> Prop} (g : Kgr zs nb R) : (dH zs R).Nodup := by
 refine List.Pairwise.imp ?_ (xK (R := R) (lt := fun a b => a ≠ b) g.nd)
 rintro k l ⟨a, b, h1, h2, h3⟩ rfl
 exact h3 (Option.some.inj (h1.symm.trans h2))
theorem ks_step {as bs : List α} {z : α} {nb : α -> List α} {R : α -> α -> Prop} (g : Kgr (as ++ z :: bs) nb R) :
  (isF (as ++ z :: bs) R z = true -> knot (as ++ z :: bs) R z ∉ (as.filter (isF (as ++ z :: bs) R)).map (knot (as ++ z :: bs) R)) /\
  (isF (as ++ z :: bs) R z = false -> knot (as ++ z :: bs) R z ∈ (as.filter (isF (as ++ z :: bs) R)).map (knot (as ++ z :: bs) R)) := by
 constructor
 ·intro h hm
  obtain ⟨y, hy, e⟩ := mem_map.mp hm
  obtain ⟨hy1, hy2⟩ := mem_filter.mp hy
  have h1 := jA.mp h
  have h2 := jA.mp hy2
  rw [e, h1] at h2
  cases h2
  have := g.nd
  rw [List.nodup_append] at this
  exact this.2.2 z hy1 z Z2 rfl
 ·intro h
  obtain ⟨f, hf⟩ := o8 (jk (R := R) (show z ∈ as ++ z :: bs by simp))
  obtain ⟨h1, h2, h3⟩ := xJ g hf
  refine mem_map.mpr ⟨f, mem_filter.mpr ⟨?_, h1⟩, h2⟩
  have hzf : f ≠ z := fun e => by rw [e] at h1; rw [h1] at h; cases h
  have hfk : f ∈ knot (as ++ z :: bs) R z := List.mem_of_mem_head? hf
  unfold knot at hf
  rw [filter_append, filter_cons, if_pos (lW.mpr (.inl rfl))] at hf
  cases e : as.filter (knB R z) with
  | nil => rw [e] at hf; exact absurd (Option.some.inj hf).symm hzf
  | cons u t =>
   rw [e] at hf
   have hu : u = f := Option.some.inj hf
   have : u ∈ as.filter (knB R z) := by rw [e]; simp
   rw [<- hu]
   exact (mem_filter.mp this).1
def may (nb : α -> List α) (pl k : List α) : Prop := ∀ a ∈ k, ∀ y ∈ nb a, y ∈ k \/ y ∈ pl
open Classical in
noncomputable def mz (nb : α -> List α) (ks dn : List (List α)) : List (List α) := ks.filter fun k => decide (k ∉ dn /\ may nb dn.flatten k)
noncomputable def nxt (nb : α -> List α) (ks dn : List (List α)) : List α := (mz nb ks dn).headD []
noncomputable def run (nb : α -> List α) (ks : List (List α)) : Nat -> List (List α)
 | 0 => []
 | n + 1 => run nb ks n ++ [nxt nb ks (run nb ks n)]
noncomputable def T3 (zs : List α) (nb : α -> List α) (R : α -> α -> Prop) : List (List α) := run nb (dH zs R) (dH zs R).length
open Classical in
theorem Gu {zs : List α} {nb : α -> List α} {R : α -> α -> Prop} (g : Kgr zs nb R) {dn : List (List α)} : ∀ (n : Nat) (z : α), z ∈ zs -> knot zs R z ∉ dn -> (zs.filter fun x => decide (x = z \/ R z x)).length <= n -> mz nb (dH zs R) dn ≠ [] := by
 intro n
 induction n with
 | zero =>
  intro z hz _ hn
  have : z ∈ zs.filter fun x => decide (x = z \/ R z x) := mem_filter.mpr ⟨hz, Z2⟩
  have := List.length_pos_of_mem this
  omega
 | succ n ih =>
  intro z hz hd hn
  by_cases hm : may nb dn.flatten (knot zs R z)
  ·exact List.ne_nil_of_mem (mem_filter.mpr ⟨(vm g).mpr ⟨z, hz, rfl⟩, decide_eq_true ⟨hd, hm⟩⟩)
  ·unfold may at hm
   simp only [Classical.not_forall, not_or] at hm
   obtain ⟨a, ha, y, hy, hyk, hyd⟩ := hm
   obtain ⟨haz, ha2⟩ := jj.mp ha
   have hyz := g.cl a haz y hy
   have hzy : R z y := by
    rcases ha2 with rfl | ⟨h1, _⟩
    ·exact g.st _ _ hy
    ·exact g.tr _ _ _ h1 (g.st _ _ hy)
   refine ih y hyz (fun k => hyd (List.mem_flatten.mpr ⟨_, k, jk hyz⟩)) ?_
   refine Nat.le_of_lt_succ (lt_of_lt_of_le (t6 (z := z) (fun x _ hx => ?_) hz Z2 ?_) hn)
   ·rw [decide_eq_true_iff] at hx ⊢
    rcases hx with rfl | hx
    ·exact .inr hzy
    ·exact .inr (g.tr _ _ _ hzy hx)
   ·rw [decide_eq_false_iff_not]
    rintro (rfl | k)
    ·exact hyk (jk hz)
    ·exact hyk (jj.mpr ⟨hyz, .inr ⟨hzy, k⟩⟩)
structure zX (nb : α -> List α) (ks : List (List α)) (i : Nat) : Prop where
 len : (run nb ks i).length = i
 nd : (run nb ks i).Nodup
 sub : ∀ k ∈ run nb ks i, k ∈ ks
open Classical in
theorem xr {nb : α -> List α} {ks : List (List α)} (hn : ks.Nodup) {i : Nat} (r : zX nb ks i) (h : i < ks.length) : ∃ k ∈ ks, k ∉ run nb ks i := by
 apply Classical.byContradiction
 intro hno
 have : ∀ k ∈ ks, k ∈ run nb ks i := fun k hk => Classical.byContradiction fun z => hno ⟨k, hk, z⟩
 have := vU hn this
 rw [r.len] at this
 omega
theorem rE {zs : List α} {nb : α -> List α} {R : α -> α -> Prop} (g : Kgr zs nb R) {i : Nat} (r : zX nb (dH zs R) i) (h : i < (dH zs R).length) : ∃ t, mz nb (dH zs R) (run nb (dH zs R) i) = nxt nb (dH zs R) (run nb (dH zs R) i) :: t := by
 obtain ⟨k, hk, hd⟩ := xr (Hs g) r h
 obtain ⟨z, hz, rfl⟩ := (vm g).mp hk
 have := Gu g (dn := run nb (dH zs R) i) _ z hz hd (le_refl _)
 unfold nxt
 cases e : mz nb (dH zs R) (run nb (dH zs R) i) with
 | nil => exact absurd e this
 | cons u t => exact ⟨t, rfl⟩
open Classical in
theorem wX {nb : α -> List α} {ks dn : List (List α)} {k : List α} : k ∈ mz nb ks dn ↔ k ∈ ks /\ k ∉ dn /\ may nb dn.flatten k := by
 unfold mz
 rw [mem_filter, decide_eq_true_iff]
theorem Gw {nb : α -> List α} {ks dn : List (List α)} {c : List α -> Bool} (h : ∀ k, c k = true ↔ (k ∉ dn /\ may nb dn.flatten k)) : ks.filter c = mz nb ks dn := by
 unfold mz
 refine filter_congr fun k _ => Bool.eq_iff_iff.mpr ((h k).trans ?_)
 exact (@decide_eq_true_iff _ (_)).symm
theorem pG {zs : List α} {nb : α -> List α} {R : α -> α -> Prop} (g : Kgr zs nb R) : ∀ {i : Nat}, i <= (dH zs R).length -> zX nb (dH zs R) i
 | 0, _ => ⟨rfl, nodup_nil, fun k hk => by cases hk⟩
 | i + 1, h => by
  have r := pG g (Nat.le_of_succ_le h)
  obtain ⟨t, e⟩ := rE g r h
  have hm : nxt nb (dH zs R) (run nb (dH zs R) i) ∈ mz nb (dH zs R) (run nb (dH zs R) i) := by rw [e]; simp
  obtain ⟨h1, h2, _⟩ := wX.mp hm
  refine ⟨?_, ?_, fun k hk => ?_⟩
  ·show (run nb (dH zs R) i ++ [_]).length = i + 1
   rw [length_append, r.len]; rfl
  ·show (run nb (dH zs R) i ++ [_]).Nodup
   rw [List.nodup_append]
   refine ⟨r.nd, Z2, fun a ha b hb e => h2 ?_⟩
   rw [mem_singleton.mp hb] at e
   exact e ▸ ha
  ·rcases mem_append.mp hk with k | k
   ·exact r.sub _ k
   ·rw [mem_singleton.mp k]; exact h1
open Classical in
noncomputable def left (ks dn : List (List α)) : List (List α) := ks.filter fun k => decide (k ∉ dn)
open Classical in
theorem Ck {nb : α -> List α} {ks dn : List (List α)} : (left ks dn).filter (fun k => decide (may nb dn.flatten k)) = mz nb ks dn := by
 unfold left mz
 rw [List.filter_filter]
 refine filter_congr fun k _ => ?_
 by_cases h1 : k ∈ dn
 ·simp [h1]
 ·by_cases h2 : may nb dn.flatten k
  ·simp [h1, h2]
  ·simp [h1, h2]
open Classical in
theorem Ar {ks dn : List (List α)} {f : List α} : (left ks dn).filter (fun k => !decide (k = f)) = left ks (dn ++ [f]) := by
 unfold left
 rw [List.filter_filter]
 refine filter_congr fun k _ => ?_
 by_cases h1 : k ∈ dn
 ·simp [h1]
 ·by_cases h2 : k = f
  ·simp [h1, h2]
  ·simp [h1, h2]
open Classical in
theorem Fb {nb : α -> List α} {ks : List (List α)} (hn : ks.Nodup) {i : Nat} (r : zX nb ks i) (hi : i <= ks.length) : left ks (run nb ks i) = [] ↔ i = ks.length := by
 constructor
 ·intro h
  apply Classical.byContradiction
  intro hne
  obtain ⟨k, hk, hd⟩ := xr hn r Z1
  have : k ∈ left ks (run nb ks i) := mem_filter.mpr ⟨hk, decide_eq_true hd⟩
  rw [h] at this
  cases this
 ·intro h
  refine List.eq_nil_iff_forall_not_mem.mpr fun k hk => ?_
  obtain ⟨h1, h2⟩ := mem_filter.mp hk
  have h2 := of_decide_eq_true h2
  have : (k :: run nb ks i).length <= ks.length := vU (nodup_cons.mpr ⟨h2, r.nd⟩) fun x hx => by
   rcases mem_cons.mp hx with rfl | hx
   ·exact h1
   ·exact r.sub x hx
  rw [length_cons, r.len] at this
  omega
theorem yh {zs : List α} {nb : α -> List α} {R : α -> α -> Prop} {lt : α -> α -> Prop} (h : zs.Pairwise lt) {dn t : List (List α)} {f : List α} (e : mz nb (dH zs R) dn = f :: t) : ∃ a, f.head? = some a /\ ∀ k ∈ t, ∃ b, k.head? = some b /\ lt a b := by
 have hp : (mz nb (dH zs R) dn).Pairwise fun k l => ∃ a b, k.head? = some a /\ l.head? = some b /\ lt a b := (xK (R := R) h).sublist List.filter_sublist
 have hm : f ∈ mz nb (dH zs R) dn := by rw [e]; simp
 obtain ⟨z, hz, ef⟩ := mem_map.mp (show f ∈ (zs.filter (isF zs R)).map (knot zs R) from (wX.mp hm).1)
 have hf : f.head? = some z := by rw [<- ef]; exact jA.mp (mem_filter.mp hz).2
 rw [e] at hp
 obtain ⟨h1, _⟩ := List.pairwise_cons.mp hp
 refine ⟨z, hf, fun k hk => ?_⟩
 obtain ⟨a, b, ha, hb, hab⟩ := h1 k hk
 rw [hf] at ha
 cases ha
 exact ⟨b, hb, hab⟩
end
end Kn
namespace L2
open PySem PySem.Spec PyProof.Rows PySem.W
section
variable {X : Cx} {pins : List (Addr × Obj)} {σ : St} {H : Hp} {s : Shared}
theorem xW {A : Around} {ls ms : List Str} {us ws : List Value} (r1 : Vals (ls.map V.str) us) (r2 : Vals (ms.map V.str) ws) :
  ∀ j (h1 : j < us.toArray.size) (h2 : j < ws.toArray.size), SeqAt.EqAt A s us.toArray[j] ws.toArray[j] (decide (ls[j]? = ms[j]?)) := fun j h1 h2 => by
 have h1' : j < us.length := by simpa using h1
 have h2' : j < ws.length := by simpa using h2
 obtain ⟨x, ex, rx⟩ := r1.at h1'
 obtain ⟨y, ey, ry⟩ := r2.at h2'
 rw [getElem?_map] at ex ey
 cases e1 : ls[j]? with
 | none => rw [e1] at ex; cases ex
 | some z1 =>
  cases e2 : ms[j]? with
  | none => rw [e2] at ey; cases ey
  | some z2 =>
   rw [e1] at ex; rw [e2] at ey
   cases ex; cases ey
   obtain ⟨t, et⟩ := rx
   obtain ⟨t', et'⟩ := ry
   have := SeqAt.EqAt.str_str (A := A) (s := s) z1 t z2 t'
   have ed : (z1 == z2) = decide (some z1 = some z2) := by
    by_cases k : z1 = z2
    ·subst k; simp
    ·rw [decide_eq_false (fun h => k (Option.some.inj h))]; simpa using k
   rw [ed] at this
   simpa [et, et'] using this
theorem yl {ls ms : List Str} {n : Nat} (hn : ls.length = n) (hl : ls.length = ms.length) : (List.range n).all (fun j => decide (ls[j]? = ms[j]?)) = decide (ls = ms) := by
 by_cases k : ls = ms
 ·subst k; simp
 ·rw [decide_eq_false k, eq_false_iff]
  intro h
  refine k (ext_getElem? fun j => ?_)
  rw [all_eq_true] at h
  by_cases hj : j < n
  ·exact of_decide_eq_true (h j (by simpa using hj))
  ·rw [List.getElem?_eq_none Z1, List.getElem?_eq_none Z1]
def Ul (K : Frag) (neg : Bool) : R2 := fun x y H Q => ∃ (a b : Addr) (ls ms : List Str), x = .ref a /\ y = .ref b /\ SqL K H a (ls.map V.str) /\ SqL K H b (ms.map V.str) /\ Q (.bl (if neg then !decide (ls = ms) else decide (ls = ms))) H
theorem Jg {K : Frag} (hK : X.K = K) (hu : X.A.units + 64 < cLine) : OpR X (compareOp .NotEq) (Ul K true) := by
 subst hK
 intro pins s σ H x y v u Q I rx ry h
 obtain ⟨a, b, ls, ms, rfl, rfl, ha, hb, q⟩ := h
 cases rx; cases ry
 obtain ⟨us, r1, p1, _⟩ := I.list ha
 obtain ⟨ws, r2, p2, _⟩ := I.list hb
 have l1 := r1.length
 have l2 := r2.length
 rw [length_map] at l1 l2
 have fin : EP X pins σ Q (.bool (!decide (ls = ms))) s := ⟨.bl _, H, I, rfl, q⟩
 by_cases hl : ls.length = ms.length
 ·have := SeqAt.RcNeAt.lists (A := X.A) (s := s) p1.isList p2.isList Z6 Z1 (xW r1 r2)
  rw [yl Z6 hl] at this
  exact this X.prog X.w X.xe _ fin
 ·have := SeqAt.RcNeAt.lists_lengths (A := X.A) (s := s) p1.isList p2.isList Z6 Z1
  rw [decide_eq_false (fun h => hl (congrArg List.length h))] at fin
  exact this X.prog X.w X.xe _ fin
end
open AutoSeq1 (wpAny_loadPart')
open MeetsSeq MeetsSeq2 MeetsSeq3 SeqRoads2
theorem Dz (l b : Addr) (items items2 : Array Value) (n n2 : Nat) (dd dd2 : Option Addr) (sl sl2 : Array (Option Value)) (x y : Str) (t u : Tok) (hi1 : items[0]? = some (.str x t)) (hi2 : items2[0]? = some (.str y u)) (hne : x ≠ y) :
  Meets (Builtin.«list.__eq__.loop» ⟨[.ref l, .ref b, rawInt 0, rawInt 0], []⟩)
   (fun A R s => s.heap.get? l = some { cls := .type "list", dict := dd, data := .seq items n, slots := sl } /\ s.heap.get? b = some { cls := .type "list", dict := dd2, data := .seq items2 n2, slots := sl2 } /\
    R (.ok (.ret (.bool (decide (x.cps.toList < y.cps.toList))))) s) := by
 intro prog w A R s h
 obtain ⟨hp, g, d, tk, os⟩ := s; obtain ⟨hl, hb, h⟩ := h
 wp_walk using wpAny_loadPart' hl, wpAny_loadPart' hb
 have hi1 : items[((0 : Int)).toNat]? = some (.str x t) := hi1
 have hi2 : items2[((0 : Int)).toNat]? = some (.str y u) := hi2
 rw [hi1, hi2]
 have he := SeqAt.EqAt.str_str (A := A.in1) (s := ⟨hp, g, d, tk, os⟩) x t y u
 have hxy : (x == y) = false := by simpa using hne
 rw [hxy] at he
 refine wpAny_bind (he prog w _ _ ?_)
 wp_walk using wpAny_loadPart' hl, wpAny_loadPart' hb
 rw [hi1, hi2]
 refine wpAny_bind (lt_str ?_)
 wp_walk
 exact h
theorem Bp (l b : Addr) (items items2 : Array Value) (n n2 : Nat) (dd dd2 : Option Addr) (sl sl2 : Array (Option Value)) (x y : Str) (t u : Tok) (hi1 : items[0]? = some (.str x t)) (hi2 : items2[0]? = some (.str y u)) (hne : x ≠ y) :
  Meets (Builtin.«list.__lt__» ⟨[.ref l, .ref b], []⟩)
   (fun A R s => s.heap.get? l = some { cls := .type "list", dict := dd, data := .seq items n, slots := sl } /\ s.heap.get? b = some { cls := .type "list", dict := dd2, data := .seq items2 n2, slots := sl2 } /\
    R (.ok (.ret (.bool (decide (x.cps.toList < y.cps.toList))))) s) := by
 intro prog w A R s h
 obtain ⟨hp, g, d, tk, os⟩ := s; obtain ⟨hl, hb, h⟩ := h
 have f3 := AutoSeq1.sub_list_list
 wp_walk using wpAny_loadPart' hl, wpAny_loadPart' hb
 exact ⟨plainId_quiet plain_eq_loop _, codeAny_builtin entry_eq_loop (by
  rw [Around.under_plainId plain_eq_loop _]
  exact Dz l b items items2 n n2 dd dd2 sl sl2 x y t u hi1 hi2 hne prog w A R _ ⟨hl, hb, h⟩)⟩
theorem Ec {prog : Program} {w : World} {A : Around} {E : Value -> Shared -> Prop} {s : Shared} {Q : Value -> Shared -> Prop} {l b : Addr} {items items2 : Array Value} {x y : Str} {t u : Tok} (hl : s.heap.IsList l items) (hb : s.heap.IsList b items2) (hi1 : items[0]? = some (.str x t)) (hi2 : items2[0]? = some (.str y u)) (hne : x ≠ y) (hu : A.units < cLine)
  (h : Q (.bool (decide (x.cps.toList < y.cps.toList))) s) : wpAny (model prog w) A (richCompare .Lt (.ref l) (.ref b)) Q E s := by
 obtain ⟨⟨cls, dd, data, sl⟩, ho, hc, n, hd⟩ := id hl
 obtain ⟨⟨cls2, dd2, data2, sl2⟩, ho2, hc2, n2, hd2⟩ := id hb
 simp only at hc hd hc2 hd2
 subst hc hd hc2 hd2
 exact richCompare_meets_room (op := .Lt) ⟨_, ho, rfl⟩ ⟨_, ho2, rfl⟩ F.slot_list_lt F.entry_list_lt (F.args_list_lt_2 _ _) (Bp l b items items2 n n2 dd dd2 sl sl2 x y t u hi1 hi2 hne)
  ⟨ho, ho2, show Value.bool (decide (x.cps.toList < y.cps.toList)) ≠ Value.notImplemented /\ Q (.bool (decide (x.cps.toList < y.cps.toList))) s from ⟨(fun x => nomatch x), h⟩⟩ hu
section
variable {prog : Program} {w : World} {A : Around} {R : Result -> Shared -> Prop} {I : Addr} {fp wr : List Addr} {n : Nat} {P : Nat -> Value -> Prop} {St : Nat -> Heap -> Prop}
theorem tL (W : Walks prog w A.in1 I fp wr n P St) {v0 : Value} {s0 : Shared} (S : Addr) (hSf : S ∉ fp)
  (hcmp : ∀ (i : Nat) v (s' : Shared) (Q : Value -> Shared -> Prop) (E : Value -> Shared -> Prop), 0 < i -> i < n -> P i v -> (∀ b o, b ∉ wr -> b ≠ S -> s0.heap.get? b = some o -> s'.heap.get? b = some o) -> Q (.bool false) s' -> wpAny (model prog w) A.in1 (richCompare .Lt v v0) Q E s') :
  ∀ (k j : Nat) (s : Shared) (c : Nat), n - (j + 1) = k -> j + 1 <= n -> St (j + 1) s.heap ->
  s.heap.get? S = some { cls := .type "list", dict := none, data := .seq #[v0, v0] c, slots := #[] } ->
  (∀ b o, b ∉ wr -> b ≠ S -> s0.heap.get? b = some o -> s.heap.get? b = some o) ->
  (∀ h' tk, (∀ b o, b ∉ wr -> b ≠ S -> s.heap.get? b = some o -> h'.get? b = some o) -> R (.ok (.ret v0)) { s with heap := h', toks := tk }) ->
  codeAny (model prog w) A (.builtin "min.loop" ⟨[.ref I, .none, .ref S], []⟩) R s := by
 have hSw : S ∉ wr := fun h => hSf (W.sub _ h)
 have hname : (toString "min" ++ toString ".loop" : String) = "min.loop" := by decide
 intro k
 induction k with
 | zero =>
  intro j s c hk hj hst hS hold hR
  have hin : j + 1 = n := by omega
  refine codeAny_builtin F.entry_min_loop ?_
  rw [Around.under_plainId F.plain_min_loop _]
  show wpAny _ A.in1 (seqItems? (.ref S) >>= _) _ _ s
  refine wpAny_bind (wpAny_seqItems hS rfl ?_)
  show wpAny _ A.in1 (tryCatch (pyNext (.ref I)) _ >>= _) _ _ s
  refine wpAny_bind (wpAny_tryCatch (W.done s _ _ (hin ▸ hst) fun h' tk hk' => ?_))
  have hS' := hk' S _ hSw hS
  show wpAny _ A.in1 (updateSeq S (fun _ => #[]) >>= _) _ _ _
  refine wpAny_bind ?_
  refine wpAny_updateSeq hS' rfl (wpAny_bind (wpAny_letGo (wpAny_pure ?_)))
  exact hR _ tk fun b o hbw hbS e => (Heap.get?_update_other _ _ (Ne.symm hbS)).trans (hk' b o hbw e)
 | succ k ih =>
  intro j s c hk hj hst hS hold hR
  have hlt : j + 1 < n := by omega
  refine codeAny_builtin F.entry_min_loop ?_
  rw [Around.under_plainId F.plain_min_loop _]
  show wpAny _ A.in1 (seqItems? (.ref S) >>= _) _ _ s
  refine wpAny_bind (wpAny_seqItems hS rfl ?_)
  show wpAny _ A.in1 (tryCatch (pyNext (.ref I)) _ >>= _) _ _ s
  refine wpAny_bind (wpAny_tryCatch (W.item (j + 1) s _ _ hlt hst fun v h' tk hP hst' hk' => ?_))
  have hS' := hk' S _ hSw hS
  show wpAny _ A.in1 (tryCatch (holding [v, v] (richCompare .Lt v v0 >>= _)) _ >>= _) _ _ _
  refine wpAny_bind (wpAny_tryCatch (wpAny_holding (wpAny_bind (hcmp (j + 1) v _ _ _ (Nat.succ_pos _) hlt hP (fun b o h1 h2 e => hk' b o h1 (hold b o h1 h2 e)) ?_))))
  refine wpAny_bind (wpAny_holding (wpAny_truthy_bool ?_))
  refine wpAny_bind (wpAny_letGo (wpAny_pure ?_))
  simp only [Bool.false_eq_true, if_false]
  refine wpAny_bind (wpAny_letGo ?_)
  rw [hname]
  refine wpAny_pure ⟨plainId_quiet F.plain_min_loop _, ih (j + 1) _ c Z1 hlt hst' hS' (fun b o h1 h2 e => hk' b o h1 (hold b o h1 h2 e)) fun h'' tk'' hk'' => ?_⟩
  exact hR h'' tk'' fun b o hbw hbS e => hk'' b o hbw hbS (hk' b o hbw e)
theorem sy (W : Walks prog w A.in1 I fp wr n P St) {v0 : Value} (S : Addr) (hSf : S ∉ fp) (hn : 0 < n) (h0 : ∀ v, P 0 v -> v = v0) {s : Shared} {c : Nat} (hst : St 0 s.heap)
  (hcmp : ∀ (i : Nat) v (s' : Shared) (Q : Value -> Shared -> Prop) (E : Value -> Shared -> Prop), 0 < i -> i < n -> P i v -> (∀ b o, b ∉ wr -> b ≠ S -> s.heap.get? b = some o -> s'.heap.get? b = some o) -> Q (.bool false) s' -> wpAny (model prog w) A.in1 (richCompare .Lt v v0) Q E s')
  (hS : s.heap.get? S = some { cls := .type "list", dict := none, data := .seq #[] c, slots := #[] })
  (hR : ∀ h' tk, (∀ b o, b ∉ wr -> b ≠ S -> s.heap.get? b = some o -> h'.get? b = some o) -> R (.ok (.ret v0)) { s with heap := h', toks := tk }) :
  codeAny (model prog w) A (.builtin "min.loop" ⟨[.ref I, .none, .ref S], []⟩) R s := by
 have hSw : S ∉ wr := fun h => hSf (W.sub _ h)
 have hname : (toString "min" ++ toString ".loop" : String) = "min.loop" := by decide
 refine codeAny_builtin F.entry_min_loop ?_
 rw [Around.under_plainId F.plain_min_loop _]
 show wpAny _ A.in1 (seqItems? (.ref S) >>= _) _ _ s
 refine wpAny_bind (wpAny_seqItems hS rfl ?_)
 show wpAny _ A.in1 (tryCatch (pyNext (.ref I)) _ >>= _) _ _ s
 refine wpAny_bind (wpAny_tryCatch (W.item 0 s _ _ hn hst fun v h' tk hP hst' hk' => ?_))
 obtain rfl := h0 v hP
 have hS' := hk' S _ hSw hS
 show wpAny _ A.in1 (updateSeq S (fun _ => #[v, v]) >>= _) _ _ _
 refine wpAny_bind ?_
 refine wpAny_updateSeq hS' rfl ?_
 rw [hname]
 refine wpAny_pure ⟨plainId_quiet F.plain_min_loop _, tL W (v0 := v) (s0 := s) S hSf hcmp _ 0 _ _ rfl hn (W.frame _ _ _ hst' fun b hbf o e => ?_) (Heap.get?_update_self _ hS' rfl) (fun b o hbw hbS e => ?_) fun h'' tk'' hk'' => ?_⟩
 ·exact (Heap.get?_update_other _ _ (fun h : S = b => hSf (by rw [h]; exact hbf))).trans e
 ·exact (Heap.get?_update_other _ _ (Ne.symm hbS)).trans (hk' b o hbw e)
 ·exact hR h'' tk'' fun b o hbw hbS e => hk'' b o hbw hbS ((Heap.get?_update_other _ _ (Ne.symm hbS)).trans (hk' b o hbw e))
end
theorem tG {prog : Program} {w : World} {A : Around} {E : Value -> Shared -> Prop} {s : Shared} {x v0 : Value} {Q : Value -> Shared -> Prop}
  (h : wpAny (model prog w) A.in1 (pyIter x) (fun it s₂ => ∃ I fp wr n P St, it = .ref I /\ Walks prog w A.in1 I fp wr n P St /\ St 0 s₂.heap /\ (∀ b ∈ fp, b < s₂.heap.objs.size) /\ 0 < n /\ (∀ v, P 0 v -> v = v0) /\
   (∀ (i : Nat) v (s' : Shared) (Q : Value -> Shared -> Prop) (E : Value -> Shared -> Prop), 0 < i -> i < n -> P i v -> (∀ b o, b ∉ wr -> s₂.heap.get? b = some o -> s'.heap.get? b = some o) -> Q (.bool false) s' -> wpAny (model prog w) A.in1 (richCompare .Lt v v0) Q E s') /\
   ∀ h' tk, (∀ b o, b ∉ wr -> s₂.heap.get? b = some o -> h'.get? b = some o) -> Q v0 { s₂ with heap := h', toks := tk }) E s) :
  wpAny (model prog w) A (call (.builtin "min") [x]) Q E s := by
 have hname : (toString "min" ++ toString ".loop" : String) = "min.loop" := by decide
 refine call_function_tree F.kind_min F.plain_min F.entry_min (F.args_min1 _) ?_
 show wpAny _ A.in1 (Builtin.Builtins.bindParams "min" ["key", "default"] 0 ⟨[], []⟩ >>= _) _ _ s
 refine wpAny_bind (wpAny_of_eq (show Builtin.Builtins.bindParams "min" ["key", "default"] 0 ⟨[], []⟩ = pure [none, none] from rfl) ?_)
 refine wpAny_bind (wpAny_pure ?_)
 refine wpAny_bind (wpAny_mono h (fun it s₂ h₂ => ?_) fun _ _ e => e)
 obtain ⟨I, fp, wr, n, P, St, rfl, W, hst, hfp, hn, h0, hcmp, hQ⟩ := h₂
 refine wpAny_bind (wpAny_newObj_type ?_)
 have hSf : s₂.heap.objs.size ∉ fp := fun hm => lt_irrefl _ (hfp _ hm)
 rw [hname]
 refine wpAny_pure ⟨plainId_quiet F.plain_min_loop _, sy W s₂.heap.objs.size hSf hn h0 (W.frame _ _ _ hst fun b _ o e => Heap.get?_push_of_some _ e) (fun i v s' Q E h1 h2 hP hk q => ?_) (Heap.get?_push_size _ rfl) fun h' tk hk => ?_⟩
 ·exact hcmp i v s' Q E h1 h2 hP (fun b o hbw e => hk b o hbw (ne_of_lt (Heap.lt_size e)) (Heap.get?_push_of_some _ e)) q
 ·exact hQ h' tk fun b o hbw e => hk b o hbw (ne_of_lt (Heap.lt_size e)) (Heap.get?_push_of_some _ e)
section
variable {X : Cx}
def J2 (K : Frag) : List V -> Hp -> VK -> Prop := fun xs H Q => ∃ (p b0 : Addr) (vs : List V) (x0 : Str) (t0 : List V), xs = [.ref p] /\ SqL K H p (.ref b0 :: vs) /\ SqL K H b0 (.str x0 :: t0) /\ (∀ v ∈ vs, ∃ (b : Addr) (x : Str) (t : List V), v = .ref b /\ SqL K H b (.str x :: t) /\ x ≠ x0 /\ ¬ x.cps.toList < x0.cps.toList) /\ Q (.ref b0) H
theorem qZ {pins : List (Addr × Obj)} {σ : St} {H : Hp} {s : Shared} (I : Inv X pins σ H s) {b : Addr} {x : Str} {t : List V} (h : SqL X.K H b (.str x :: t)) : ∃ items tk, s.heap.IsList b items /\ items[0]? = some (.str x tk) := by
 obtain ⟨us, r, p, _⟩ := I.list h
 obtain ⟨u, eu, ru⟩ := r.get (i := 0) (x := .str x) rfl
 obtain ⟨tk, rfl⟩ := ru
 exact ⟨us.toArray, tk, p.isList, by simpa using eu⟩
theorem Bb {K : Frag} (hK : X.K = K) (hc : X.calm = true) (hu : X.A.units + 64 < cLine) : kE X (.builtin "min") (J2 K) := by
 subst hK
 intro pins s σ H xs us Q I r h
 obtain ⟨p, b0, vs, x0, t0, rfl, hp, hb, hv, q⟩ := h
 obtain ⟨u, rfl, rx⟩ := vals1 r
 cases (show u = Value.ref p from rx)
 obtain ⟨its, rv, pl, hz⟩ := I.list hp
 obtain ⟨items0, tk0, hl0, hi0⟩ := qZ I hb
 have hlen := rv.length
 have hne : p ≠ s.heap.objs.size := by
  obtain ⟨o, e, _⟩ := pl.isList
  exact ne_of_lt (Heap.lt_size e)
 have hlt : p < s.heap.objs.size := by
  obtain ⟨o, e, _⟩ := pl.isList
  exact Heap.lt_size e
 obtain ⟨u0, e0, ru0⟩ := rv.get (i := 0) (x := .ref b0) rfl
 obtain rfl : u0 = Value.ref b0 := ru0
 refine tG (v0 := .ref b0) (wpAny_pyIter_list pl.isList ?_)
 refine ⟨s.heap.objs.size, _, _, _, _, _, rfl, Walks.list (show X.A.in1.handled = none from I.ok.hd hc) s.heap.objs.size p hne its.toArray, ⟨⟨_, Heap.get?_push_size _ rfl, rfl, rfl⟩, pl.isList.at fun o e => Heap.get?_push_of_some _ e⟩, fun b hb => ?_, by rw [size_toArray, <- hlen]; simp, fun v hP => ?_, fun i v s' Q' E' h1 h2 hP hk hQ => ?_, fun h' tk kk => ?_⟩
 ·show b < (s.heap.push _).objs.size
  rw [Heap.size_push]
  rcases mem_cons.mp hb with rfl | hb
  ·exact Nat.lt_succ_self _
  ·rw [mem_singleton.mp hb]; exact Nat.lt_succ_of_lt hlt
 ·have hP : its.toArray[0]? = some v := hP
  have e1 : its.toArray[0]? = some (Value.ref b0) := by simpa using e0
  rw [e1] at hP
  exact (Option.some.inj hP).symm
 ·have hP : its.toArray[i]? = some v := hP
  have hP : its[i]? = some v := by simpa using hP
  obtain ⟨j, rfl⟩ : ∃ j, i = j + 1 := ⟨i - 1, Z1⟩
  have hj : j + 1 < its.length := by simpa using h2
  obtain ⟨y, ey, ry⟩ := rv.at hj
  obtain ⟨b, x, t, rfl, hbx, hne2, hnl⟩ := hv y (mem_of_getElem? (i := j) (by simpa using ey))
  have ry : its[j + 1] = Value.ref b := ry
  rw [getElem?_eq_getElem hj, ry] at hP
  cases hP
  obtain ⟨items1, tk1, hl1, hi1⟩ := qZ I hbx
  have keep : ∀ {c : Addr} {it : Array Value}, s.heap.IsList c it -> s'.heap.IsList c it := fun {c it} hc => hc.at fun o e => hk c o (fun z => absurd (Heap.lt_size e) (by rw [mem_singleton.mp z]; exact lt_irrefl _)) (Heap.get?_push_of_some _ e)
  refine Ec (keep hl1) (keep hl0) hi1 hi0 hne2 (show X.A.units + 1 < cLine by omega) ?_
  rw [decide_eq_false hnl]
  exact hQ
 ·refine ⟨.ref b0, H, I.kept fun b o e => ?_, rfl, q⟩
  exact kk b o (fun z => absurd (Heap.lt_size e) (by rw [mem_singleton.mp z]; exact lt_irrefl _)) (Heap.get?_push_of_some _ e)
end
end L2
namespace L2
open PySem PySem.Spec PyProof.Rows
theorem aZ {N P : List Str} {s : Scope} (a : s.kind = .function := by rfl) (b : s.isCoroutine = false := by rfl) (c : s.isGenerator = false := by rfl) (d : N.Nodup := by decide +kernel) (e : N.take P.length = P := by rfl) (f : ∀ x ∈ P, s.names.lookup x = some .local \/ s.names.lookup x = some .cell := by decide +kernel) (g : ∀ y ∈ s.names, y.2 ≠ .free := by decide +kernel) : aH N P s := ⟨a, b, c, d, e, f, g⟩
section
variable {P : Program} {w : World} {K : Frag} {mg : Str -> Option Value} {base : Heap}
theorem Fun.oq {x qual : Str} {st : Stmt} {f : Addr} {fd : FuncData} {N ps : List Str} {k : Nat} {sp : Sp} (F : Fun K x qual st f fd) (S : aH N ps (aC st))
 (hbody : ∀ (cdv : Value) (A : Around) (outer : List Env) (s : Shared) (H : Hp) (vs : List V) (Q : VK) (E : XK), aP k (A.deeper (envOfC qual (aC st) s.heap.objs.size f cdv)) -> sp vs H Q E -> ∃ t, PSs (m9 CX0 P w K mg base N qual (aC st) f cdv A outer s H E).nox (bR st) t /\ t { nx := fun _ H' => Q .non H', rt := Q } (start N vs) H)
 (len : ∀ vs H Q E, sp vs H Q E -> vs.length = ps.length := by intro vs H Q E h; repeat (first | (obtain ⟨rfl, _⟩ := h; rfl) | obtain ⟨_, h⟩ := h)) : aM P w K mg base CX0 (k + 1) f fd ps sp := F.ok S len hbody
theorem Fun.oqX {x qual : Str} {st : Stmt} {f : Addr} {fd : FuncData} {N ps : List Str} {k : Nat} {sp : Sp} (F : Fun K x qual st f fd) (S : aH N ps (aC st))
 (hbody : ∀ (cdv : Value) (A : Around) (outer : List Env) (s : Shared) (H : Hp) (vs : List V) (Q : VK) (E : XK), aP k (A.deeper (envOfC qual (aC st) s.heap.objs.size f cdv)) -> sp vs H Q E -> ∃ t, PSs (m9 (CX1 P w) P w K mg base N qual (aC st) f cdv A outer s H E) (bR st) t /\ t { nx := fun _ H' => Q .non H', rt := Q } (start N vs) H)
 (len : ∀ vs H Q E, sp vs H Q E -> vs.length = ps.length := by intro vs H Q E h; repeat (first | (obtain ⟨rfl, _⟩ := h; rfl) | obtain ⟨_, h⟩ := h)) : aM P w K mg base (CX1 P w) (k + 1) f fd ps sp := F.okX S len hbody
end
end L2
namespace Mine
open PySem PySem.Spec PyProof.Rows L2 Kn
theorem dB (zs : List Str) : (zs.map V.str).all cW = true := by
 rw [all_eq_true]; intro v hv; obtain ⟨z, _, rfl⟩ := mem_map.mp hv; rfl
theorem km : (("." : Str)).length <= 1 := by decide +kernel
def top (i : Nat) : Stmt := pw_drawhouse_k36_knots.main.body.getD i (.Pass ⟨0, 0, 0, 0⟩)
def aB : Stmt -> List Stmt
 | .ClassDef _ _ _ b _ _ _ _ _ _ _ => b
 | _ => []
abbrev gW : Stmt := (aB (top 7)).getD 0 (.Pass ⟨0, 0, 0, 0⟩)
abbrev kh : Stmt := top 9
abbrev iT : Stmt := top 10
abbrev jn : Stmt := top 20
abbrev qC : Stmt := top 21
abbrev iy : Stmt := top 22
abbrev lV : Stmt := top 23
abbrev lX : Stmt := top 25
abbrev jZ : Stmt := top 26
abbrev jT : Stmt := top 27
abbrev qK : Stmt := top 28
abbrev iB : Stmt := top 31
abbrev jX : Stmt := top 32
abbrev fY : Stmt := top 33
abbrev fO : Stmt := (aB (top 12)).getD 0 (.Pass ⟨0, 0, 0, 0⟩)
abbrev fW : Stmt := (aB (top 12)).getD 1 (.Pass ⟨0, 0, 0, 0⟩)
abbrev di : Stmt := (aB (top 13)).getD 0 (.Pass ⟨0, 0, 0, 0⟩)
abbrev fZ : Stmt := (aB (top 13)).getD 1 (.Pass ⟨0, 0, 0, 0⟩)
abbrev cL : Stmt := (aB (top 14)).getD 0 (.Pass ⟨0, 0, 0, 0⟩)
abbrev dW : Stmt := (aB (top 14)).getD 1 (.Pass ⟨0, 0, 0, 0⟩)
abbrev cG : Stmt := (aB (top 15)).getD 0 (.Pass ⟨0, 0, 0, 0⟩)
abbrev eY : Stmt := (aB (top 15)).getD 1 (.Pass ⟨0, 0, 0, 0⟩)
abbrev d9 : Stmt := (aB (top 15)).getD 2 (.Pass ⟨0, 0, 0, 0⟩)
abbrev cP : Stmt := (aB (top 16)).getD 0 (.Pass ⟨0, 0, 0, 0⟩)
abbrev d8 : Stmt := (aB (top 16)).getD 1 (.Pass ⟨0, 0, 0, 0⟩)
abbrev eQ : Stmt := (aB (top 16)).getD 2 (.Pass ⟨0, 0, 0, 0⟩)
abbrev cN : Stmt := (aB (top 17)).getD 0 (.Pass ⟨0, 0, 0, 0⟩)
abbrev eX : Stmt := (aB (top 17)).getD 1 (.Pass ⟨0, 0, 0, 0⟩)
abbrev eO : Stmt := (aB (top 17)).getD 2 (.Pass ⟨0, 0, 0, 0⟩)
abbrev cJ : Stmt := (aB (top 18)).getD 0 (.Pass ⟨0, 0, 0, 0⟩)
abbrev cC : Stmt := (aB (top 34)).getD 0 (.Pass ⟨0, 0, 0, 0⟩)
abbrev b7 : Stmt := (aB (top 34)).getD 1 (.Pass ⟨0, 0, 0, 0⟩)
abbrev d7 : Stmt := (aB (top 34)).getD 3 (.Pass ⟨0, 0, 0, 0⟩)
abbrev cI : Stmt := (aB (top 36)).getD 0 (.Pass ⟨0, 0, 0, 0⟩)
abbrev dY : Stmt := (aB (top 36)).getD 1 (.Pass ⟨0, 0, 0, 0⟩)
abbrev jU : Stmt := top 38
abbrev jP : Stmt := top 39
abbrev iR : Stmt := top 40
abbrev dD : Stmt := top 41
abbrev iV : Stmt := top 43
abbrev iw : Stmt := top 44
abbrev jL : Stmt := top 45
abbrev lZ : Stmt := top 46
abbrev iU : Stmt := top 47
abbrev jG : Stmt := top 48
abbrev eV : Stmt := top 42
abbrev iH : Stmt := top 49
abbrev gJ : Stmt := top 50
abbrev lQ : Stmt := top 51
abbrev jo : Stmt := top 52
abbrev EY : Stmt := top 53
def pP (ns : List Int) (k : Int) : Int := if k < (ns.length : Int) then Builtin.bitAnd (ns.getD k.toNat 0) (1 * 2 ^ (4400 : Int).toNat - 1) else 0
def qF (K : Frag) : Sp := fun vs H Q _ => ∃ (a : Addr) (ns : List Int) (k : Int), vs = [.ref a, .int k] /\ SqL K H a (ns.map V.int) /\ 0 <= k /\ Pur (.int (pP ns k)) H Q
section
variable {P : Program} {w : World} {K : Frag} {mg : Str -> Option Value} {base : Heap}
abbrev pB : List Str := ["_law_script", "_law_k"]
theorem Im : aH ["_law_script", "_law_k"] pB (aC jU) := aZ
theorem uC {f : Addr} {fd : FuncData} (F : Fun K "_law_cell" "_law_cell" jU f fd) (hlen : mg "len" = none) : aM P w K mg base CX0 1 f fd pB (qF K) := by
 refine F.oq Im fun _ _ _ _ H _ Q E hr h => ?_
 ·obtain ⟨a, ns, k, rfl, hS, h0, q⟩ := h
  refine ⟨_, gn (CQ (aJ tU (pv 1) (aX aY Z3 hlen boot_len (aj (pv 0) aq)) (aV _))
    (oV (rm (aQ Dq (bW bC (pv 0) (pv 1) (fun _ _ => rfl)) (aQ Ig (aQ Jo aA aA) aA)))) uN)
   (oV (rm aA)), ?_⟩
  refine ⟨_, rfl, _, rfl, a, _, rfl, .inl hS, _, _, rfl, rfl, _, rfl, ?_⟩
  rw [length_map]
  refine gj (fun hk => ?_) (fun hk => ?_)
  ·have hk2 : ns[k.toNat]? = some (ns.getD k.toNat 0) := by
    rw [List.getD_eq_getElem?_getD, getElem?_eq_getElem Z1]
    rfl
   have hk3 : (ns.map V.int)[k.toNat]? = some (V.int (ns.getD k.toNat 0)) := by rw [getElem?_map, hk2]; rfl
   have hat : atI (ns.map V.int) k = some (V.int (ns.getD k.toNat 0)) := by
    have := bf hk3
    rwa [show ((k.toNat : Nat) : Int) = k from by omega] at this
   refine ⟨_, rfl, _, rfl, a, _, _, _, rfl, rfl, hS, hat, _, _, rfl, rfl, ⟨Z0, Z0, Z0⟩, _, _, rfl, rfl, _, _, rfl, rfl, ?_⟩
   have e : pP ns k = Builtin.bitAnd (ns.getD k.toNat 0) (1 * 2 ^ (4400 : Int).toNat - 1) := if_pos hk
   have q' := q H (au.refl H)
   rw [e] at q'
   exact q'
  ·have e : pP ns k = 0 := if_neg hk
   have q' := q H (au.refl H)
   rw [e] at q'
   exact q'
abbrev iW : List Str := ["_law_cell_here", "_law_k", "_law_many"]
theorem pJ : aH ["_law_cell_here", "_law_k", "_law_many", "_law_great", "_law_by", "_law_one"] iW (aC jP) := aZ
theorem jY {f : Addr} {fd : FuncData} (F : Fun K "_law_pick" "_law_pick" jP f fd) : aM P w K mg base CX0 1 f fd iW lC := by
 refine F.oq pJ fun _ _ _ _ H _ Q E hr h => ?_
 ·obtain ⟨c, k, m, rfl, h0, h1, hm, q⟩ := h
  refine ⟨_, gn (CQ (mV (aJ eN (aQ jd (pv 0) aA) aA (aV _)) (lO (aJ zu (aQ Dy (pv 0) aA) aA (aV _)))).pt
    (oV (rm (aQ jd (aQ Dq (aQ Dy (pv 0) (aQ cR aA (aQ nC aA (pv 1)))) aA) (pv 2)))) uN)
   (gn (m7 (i := 3) pJ.nd rfl (Or.inl rfl) aA)
   (gn (m7 (i := 4) pJ.nd rfl (Or.inl rfl) (bW bC (bz (aj aA (aj aA (aj aA (aj aA (aj aA (aj aA (aj aA (aj aA aq))))))))) (aQ jd (pv 1) aA) (fun _ _ => rfl)))
   (gn (m7 (i := 4) pJ.nd rfl (Or.inl rfl) (aQ nC (pv 4) (bW bC (bz (aj aA (aj aA (aj aA (aj aA (aj aA aq)))))) (aQ qu (pv 1) aA) (fun _ _ => rfl))))
   (gn (m7 (i := 5) pJ.nd rfl (Or.inl rfl) (aQ jd (aQ nC (aQ cR (aQ jd (aQ qu (pv 0) aA) (pv 3)) aA) (pv 4)) (pv 3)))
   (gn (m7 (i := 5) pJ.nd rfl (Or.inl rfl) (aQ jd (aQ nC (pv 5) (pv 5)) aA))
   (oV (rm (aQ jd (aQ qu (aQ jd (aQ nC (aQ cR (aQ cR (pv 5) (pv 1)) aA) (aQ cR (aQ qu (pv 5) aA) aA)) aA) aA) (pv 2))))))))), ?_⟩
  obtain ⟨t1, t2, t3⟩ := Fx (k := k % 8) Z1 Z1
  obtain ⟨u1, u2, u3⟩ := FT (k := k / 8) Z1 Z1
  have a8 : atI (oW.map V.int) (k % 8) = some (V.int (oW.getD (k % 8).toNat 0)) := by
   have := bf (xs := oW.map V.int) (j := (k % 8).toNat) (by rw [getElem?_map, t1]; rfl)
   rwa [show (((k % 8).toNat : Nat) : Int) = k % 8 from by omega] at this
  have a5 : atI (nW.map V.int) (k / 8) = some (V.int (nW.getD (k / 8).toNat 0)) := by
   have := bf (xs := nW.map V.int) (j := (k / 8).toNat) (by rw [getElem?_map, u1]; rfl)
   rwa [show (((k / 8).toNat : Nat) : Int) = k / 8 from by omega] at this
  have g1 := Gn c k
  have g2 := Fq c k
  have g3 := GJ c k
  have g4 := GZ c k
  have ms := Bo t2 t3 u2 u3
  refine ⟨_, rfl, _, _, rfl, rfl, (by show (0 : Int) < 2; decide), rfl, _, rfl, ?_⟩
  refine My (fun hA => ?_) (fun hA => ?_)
  ·refine ⟨_, rfl, _, _, rfl, rfl, (by show (0 : Int) <= 400; decide), _, _, rfl, rfl, _, rfl, ?_⟩
   refine gj (fun hB => ?_) (fun hB => ?_)
   ·have e : pick c k m = Ho c k m := if_pos ⟨hA, hB⟩
    have q' := q H (au.refl H)
    rw [e] at q'
    exact ⟨_, rfl, _, rfl, _, _, rfl, rfl, .inl ⟨Z0, Z0⟩, _, _, rfl, rfl, _, _, rfl, rfl, (by show (0 : Int) <= 1 + 10 * k; omega), _, _, rfl, rfl, _, rfl, _, _, rfl, rfl, hm, q'⟩
   ·have e : pick c k m = Ei c k m := if_neg fun z => hB z.2
    refine ⟨by show 8 <= sizeLine; decide, fun p hp => ?_⟩
    refine ⟨_, rfl, _, _, rfl, rfl, (by show (0 : Int) < 8; decide), p, oW.map V.int, _, _, rfl, rfl, SqL.of ak, a8, ?_⟩
    refine ⟨_, rfl, (by show 5 <= sizeLine; decide), fun p2 hp2 => ?_⟩
    refine ⟨_, rfl, _, _, rfl, rfl, ⟨Z0, Z0⟩, p2, nW.map V.int, _, _, rfl, rfl, SqL.of ak, a5, _, _, rfl, rfl, .inl ⟨Z1, Z1⟩, ?_⟩
    refine ⟨_, rfl, _, _, rfl, rfl, ⟨Z0, Z0⟩, _, rfl, _, _, rfl, rfl, (by show (0 : Int) < 2305843009213693951; decide), _, _, rfl, rfl, _, rfl, _, _, rfl, rfl, .inr ⟨Z1, Z1⟩, _, rfl, _, _, rfl, rfl, (by show (0 : Int) < 2305843009213693951; decide), ?_⟩
    refine ⟨_, rfl, _, rfl, _, _, rfl, rfl, .inl ⟨(by show -(2 ^ 64) < xf c k; omega), (by show xf c k < 2 ^ 64; omega)⟩, _, _, rfl, rfl, (by show (0 : Int) < 1000000000039; decide), ?_⟩
    refine ⟨_, rfl, _, rfl, _, _, rfl, rfl, _, _, rfl, rfl, _, rfl, _, _, rfl, rfl, ⟨Z0, Z0⟩, _, _, rfl, rfl, _, _, rfl, rfl, .inl ⟨(by show -(2 ^ 64) < wg c k + k + 1; omega), (by show wg c k + k + 1 < 2 ^ 64; omega)⟩, _, _, rfl, rfl, (by show (0 : Int) < 67280421310721; decide), _, _, rfl, rfl, ⟨Z0, Z0⟩, _, rfl, _, _, rfl, rfl, hm, ?_⟩
    rw [e] at q
    exact q _ ((au.new hp).put hp2)
  ·refine qg ?_
   have e : pick c k m = Ei c k m := if_neg fun z => hA z.1
   refine ⟨by show 8 <= sizeLine; decide, fun p hp => ?_⟩
   refine ⟨_, rfl, _, _, rfl, rfl, (by show (0 : Int) < 8; decide), p, oW.map V.int, _, _, rfl, rfl, SqL.of ak, a8, ?_⟩
   refine ⟨_, rfl, (by show 5 <= sizeLine; decide), fun p2 hp2 => ?_⟩
   refine ⟨_, rfl, _, _, rfl, rfl, ⟨Z0, Z0⟩, p2, nW.map V.int, _, _, rfl, rfl, SqL.of ak, a5, _, _, rfl, rfl, .inl ⟨Z1, Z1⟩, ?_⟩
   refine ⟨_, rfl, _, _, rfl, rfl, ⟨Z0, Z0⟩, _, rfl, _, _, rfl, rfl, (by show (0 : Int) < 2305843009213693951; decide), _, _, rfl, rfl, _, rfl, _, _, rfl, rfl, .inr ⟨Z1, Z1⟩, _, rfl, _, _, rfl, rfl, (by show (0 : Int) < 2305843009213693951; decide), ?_⟩
   refine ⟨_, rfl, _, rfl, _, _, rfl, rfl, .inl ⟨(by show -(2 ^ 64) < xf c k; omega), (by show xf c k < 2 ^ 64; omega)⟩, _, _, rfl, rfl, (by show (0 : Int) < 1000000000039; decide), ?_⟩
   refine ⟨_, rfl, _, rfl, _, _, rfl, rfl, _, _, rfl, rfl, _, rfl, _, _, rfl, rfl, ⟨Z0, Z0⟩, _, _, rfl, rfl, _, _, rfl, rfl, .inl ⟨(by show -(2 ^ 64) < wg c k + k + 1; omega), (by show wg c k + k + 1 < 2 ^ 64; omega)⟩, _, _, rfl, rfl, (by show (0 : Int) < 67280421310721; decide), _, _, rfl, rfl, ⟨Z0, Z0⟩, _, rfl, _, _, rfl, rfl, hm, ?_⟩
   rw [e] at q
   exact q _ ((au.new hp).put hp2)
end
abbrev gY : List Str := ["self", "address"]
theorem yM : aH ["self", "address"] gY (aC gW) := aZ
abbrev iI : List Str := ["address"]
theorem pW : aH ["address", "names"] iI (aC kh) := aZ
abbrev gA : List Str := ["address"]
theorem xu : aH ["address"] gA (aC iT) := aZ
abbrev jK : List Str := ["row"]
theorem mX : aH ["row", "named", "address"] jK (aC jn) := aZ
abbrev nT : List Str := ["house", "address"]
theorem oY : aH ["house", "address", "part", "named", "row"] nT (aC qC) := aZ
abbrev iD : List Str := ["house"]
theorem lL : aH ["house", "linked", "address"] iD (aC iy) := aZ
abbrev jW : List Str := ["linked", "address"]
theorem ju : aH ["linked", "address", "ahead", "found", "one"] jW (aC lV) := aZ
abbrev mj : List Str := ["led", "address"]
theorem Al : aH ["led", "address"] mj (aC lX) := aZ
abbrev jV : List Str := ["linked", "knot", "placed"]
theorem mY : aH ["linked", "knot", "placed", "address", "one"] jV (aC jZ) := aZ
abbrev jy : List Str := ["linked", "left"]
theorem fH : aH ["linked", "left", "told", "placed", "free", "address"] jy (aC jT) := aZ
abbrev oK : List Str := ["house"]
theorem lH : aH ["house", "linked", "led", "address", "firsts"] oK (aC qK) := aZ
abbrev iz : List Str := ["part", "addresses"]
theorem pQ : aH ["part", "addresses", "parent"] iz (aC iB) := aZ
abbrev jC : List Str := ["part", "addresses"]
theorem yL : aH ["part", "addresses"] jC (aC jX) := aZ
abbrev f9 : List Str := ["parts"]
theorem fV : aH ["parts", "addresses", "at", "part"] f9 (aC fY) := aZ
abbrev jE : List Str := ["self"]
theorem uW : aH ["self"] jE (aC fO) := aZ
abbrev jt : List Str := ["self"]
theorem vp : aH ["self"] jt (aC fW) := aZ
abbrev iQ : List Str := ["self", "name", "terms"]
theorem wD : aH ["self", "name", "terms"] iQ (aC di) := aZ
abbrev jJ : List Str := ["self"]
theorem uO : aH ["self"] jJ (aC fZ) := aZ
abbrev gK : List Str := ["self", "name", "terms"]
theorem uV : aH ["self", "name", "terms"] gK (aC cL) := aZ
abbrev je : List Str := ["self"]
theorem tM : aH ["self"] je (aC dW) := aZ
abbrev gH : List Str := ["self", "address", "name"]
theorem uF : aH ["self", "address", "name"] gH (aC cG) := aZ
abbrev jf : List Str := ["self"]
theorem sU : aH ["self"] jf (aC eY) := aZ
abbrev jc : List Str := ["self"]
theorem sY : aH ["self"] jc (aC d9) := aZ
abbrev gO : List Str := ["self", "address", "name"]
theorem vK : aH ["self", "address", "name"] gO (aC cP) := aZ
abbrev iZ : List Str := ["self"]
theorem sV : aH ["self"] iZ (aC d8) := aZ
abbrev jb : List Str := ["self"]
theorem sZ : aH ["self"] jb (aC eQ) := aZ
abbrev gF : List Str := ["self", "word", "address", "name"]
theorem uG : aH ["self", "word", "address", "name"] gF (aC cN) := aZ
abbrev iY : List Str := ["self"]
theorem sS : aH ["self"] iY (aC eX) := aZ
abbrev jh : List Str := ["self"]
theorem tE : aH ["self"] jh (aC eO) := aZ
abbrev gQ : List Str := ["self", "terms"]
theorem uI : aH ["self", "terms"] gQ (aC cJ) := aZ
abbrev fX : List Str := ["self", "parts"]
theorem sW : aH ["self", "parts"] fX (aC cC) := aZ
abbrev bM : List Str := ["self"]
theorem mU : aH ["self"] bM (aC b7) := aZ
abbrev fU : List Str := ["self", "address"]
theorem mG : aH ["self", "address", "part"] fU (aC d7) := aZ
abbrev gM : List Str := ["self", "address", "rows"]
theorem uQ : aH ["self", "address", "rows"] gM (aC cI) := aZ
abbrev fP : List Str := ["self"]
theorem mH : aH ["self", "names"] fP (aC dY) := aZ
abbrev qG : List Str := ["_law_cell_here"]
theorem iJ : aH ["_law_cell_here", "_law_letters", "_law_base", "_law_size", "_law_at", "_law_first", "_law_head", "_law_tail"] qG (aC iR) := aZ
abbrev iC : List Str := ["_law_cell_here", "_law_many", "_law_words_here"]
theorem cX : aH ["_law_cell_here", "_law_many", "_law_words_here", "_law_found", "_law_k", "_law_above", "_law_parent", "_law_address"] iC (aC dD) := aZ
abbrev qx : List Str := ["_law_cell_here", "_law_addresses_here", "_law_words_here"]
theorem uZ : aH ["_law_cell_here", "_law_addresses_here", "_law_words_here", "_law_address", "_law_word"] qx (aC iV) := aZ
abbrev qI : List Str := ["_law_cell_here", "_law_known", "_law_addresses_here", "_law_words_here"]
theorem jO : aH ["_law_cell_here", "_law_known", "_law_addresses_here", "_law_words_here", "_law_sort", "_law_free", "_law_name", "_law_beneath", "_law_one"] qI (aC iw) := aZ
abbrev uH : List Str := ["_law_script", "_law_addresses_here", "_law_words_here"]
theorem kY : aH ["_law_script", "_law_addresses_here", "_law_words_here", "_law_rows_here", "_law_address", "_law_k", "_law_cell_here", "_law_owner", "_law_known"] uH (aC jL) := aZ
abbrev zT : List Str := ["_law_row_here"]
theorem sr : aH ["_law_row_here", "_law_sort", "_law_name", "_law_address", "_law_word", "_law_terms"] zT (aC lZ) := aZ
abbrev qw : List Str := ["_law_addresses_here", "_law_rows_here"]
theorem Gm : aH ["_law_addresses_here", "_law_rows_here"] qw (aC iU) := aZ
abbrev vJ : List Str := ["_law_script"]
theorem rJ : aH ["_law_script", "_law_words_here", "_law_many", "_law_addresses_here"] vJ (aC jG) := aZ
abbrev jB : List Str := ["_law_address"]
theorem rF : aH ["_law_address", "_law_names"] jB (aC eV) := aZ
abbrev nP : List Str := ["_law_address", "_law_addresses_here", "_law_rows_here"]
theorem jR : aH ["_law_address", "_law_addresses_here", "_law_rows_here", "_law_named", "_law_sort", "_law_name", "_law_asked_here", "_law_word"] nP (aC iH) := aZ
abbrev nY : List Str := ["_law_addresses_here", "_law_rows_here"]
theorem eZ : aH ["_law_addresses_here", "_law_rows_here", "_law_behind_here", "_law_near", "_law_address", "_law_found", "_law_at"] nY (aC gJ) := aZ
abbrev zL : List Str := ["_law_addresses_here", "_law_rows_here"]
theorem gC : aH ["_law_addresses_here", "_law_rows_here", "_law_behind_here", "_law_near", "_law_one", "_law_some", "_law_knot", "_law_found", "_law_ahead", "_law_may", "_law_far"] zL (aC lQ) := aZ
abbrev vf : List Str := ["_law_script", "_law_words_here"]
theorem pL : aH ["_law_script", "_law_words_here", "_law_head", "_law_addresses_here", "_law_step", "_law_rows_here", "_law_k"] vf (aC jo) := aZ
abbrev Hr : List Str := ["_law_script"]
theorem mK : aH ["_law_script", "_law_words_here", "_law_addresses_here", "_law_rows_here", "_law_house", "_law_due_here", "_law_turn", "_law_found"] Hr (aC EY) := aZ
section
variable {P : Program} {w : World} {K : Frag} {mg : Str -> Option Value} {base : Heap}
def zj (K : Frag) : Sp := fun vs H Q _ => ∃ (a : Addr) (ns : List Int), vs = [.ref a] /\ SqL K H a (ns.map V.int) /\ ns.length <= 63 /\ ∀ H', Q (.bl true) H'
theorem bH : 1000 <= sizeLine := by decide
def vL (C : Nat -> Addr) (i : Nat) : Sp := fun vs H Q _ => ∃ (x dx : Addr) (r : cB) (d : Addr), vs = [.ref x, .str r.nm, .ref d] /\ r.so = i /\ H x = some (.ins (C i) dx []) /\ kZ H d r.ts /\ r.ts.length <= 10 /\
 ∀ l H', H l = none -> SameBut x H H' -> dJ C H' x l r -> Q .non H'
def vH (C : Nat -> Addr) (i : Nat) : Sp := fun vs H Q _ => ∃ (x dx : Addr) (r : cB), vs = [.ref x, .str r.ad, .str r.nm] /\ r.so = i /\ H x = some (.ins (C i) dx []) /\ ∀ H', SameBut x H H' -> (∀ l, dJ C H' x l r) -> Q .non H'
def Ed (C : Nat -> Addr) : Sp := fun vs H Q _ => ∃ (x dx : Addr) (r : cB), vs = [.ref x, .str r.wd, .str r.ad, .str r.nm] /\ r.so = 4 /\ H x = some (.ins (C 4) dx []) /\ ∀ H', SameBut x H H' -> (∀ l, dJ C H' x l r) -> Q .non H'
def CT (C : Nat -> Addr) : Sp := fun vs H Q _ => ∃ (x dx : Addr) (r : cB) (d : Addr), vs = [.ref x, .ref d] /\ r.so = 5 /\ H x = some (.ins (C 5) dx []) /\ kZ H d r.ts /\ r.ts.length <= 10 /\
 ∀ l H', H l = none -> SameBut x H H' -> dJ C H' x l r -> Q .non H'
def BW : Sp := fun vs H Q _ => ∃ v : V, vs = [v] /\ Pur (.str "") H Q
def vW : Sp := fun vs H Q _ => ∃ v : V, vs = [v] /\ ∀ b H', H b = none -> au H H' -> H' b = some (.lst []) -> Q (.ref b) H'
def spB (C : Nat -> Addr) (i : Nat) : Sp := fun vs H Q _ => ∃ (a l : Addr) (r : cB), vs = [.ref a] /\ r.so = i /\ dJ C H a l r /\ Pur (.str r.nm) H Q
def spA (C : Nat -> Addr) (i : Nat) : Sp := fun vs H Q _ => ∃ (a l : Addr) (r : cB), vs = [.ref a] /\ r.so = i /\ dJ C H a l r /\ ∀ b H', H b = none -> au H H' -> H' b = some (.lst [.str r.ad]) -> Q (.ref b) H'
structure RL (K : Frag) (C : Nat -> Addr) : Prop where
 c : ∀ i, i <= 6 -> RCl K (C i)
 kit : ∀ i j, i <= 6 -> j <= 6 -> kitOne K (.ref (C i)) (.ref (C j)) = some (pX i j)
 nn : ∀ i, i <= 6 -> cF K (C i) "name"
 nt : ∀ i, i <= 6 -> cF K (C i) "terms"
 na : ∀ i, i <= 6 -> cF K (C i) "address"
 nw : ∀ i, i <= 6 -> cF K (C i) "word"
theorem qJ {z : Str} (h : (decide (1 <= z.length) && decide (z.length <= 8) && z.cps.toList.all fun n => decide (97 <= n) && decide (n <= 122)) = true) : cQ z := by
 simp only [and_eq_true, decide_eq_true_eq, all_eq_true] at h
 exact ⟨h.1.1, h.1.2, fun n hn => h.2 n hn⟩
theorem Jj {xs : List V} {ys : List Str} (hl : ys.length = xs.length) (h : ∀ (i : Nat) v, xs[i]? = some v -> ∃ z, ys[i]? = some z /\ v = .str z) : xs = ys.map V.str := by
 apply ext_getElem?
 intro i
 rw [getElem?_map]
 cases e : xs[i]? with
 | none =>
  have e2 : ys[i]? = none := by
   rw [List.getElem?_eq_none_iff] at e ⊢
   omega
  rw [e2]; rfl
 | some v =>
  obtain ⟨z, ez, rfl⟩ := h i v e
  rw [ez]; rfl
theorem BV {xs : List V} (h : ∀ (i : Nat) v, xs[i]? = some v -> ∃ z, v = V.str z /\ cQ z) : ∃ ys : List Str, ys.length = xs.length /\ xs = ys.map V.str /\ ∀ y ∈ ys, cQ y := by
 obtain ⟨ys, hyl, hys⟩ := gw (fun _ v z => v = V.str z /\ cQ z) xs 0 (fun i v e => h i v e)
 refine ⟨ys, hyl, Jj hyl fun i v e => ?_, fun y hy => ?_⟩
 ·obtain ⟨z, ez, rz, _⟩ := hys i v e
  exact ⟨z, ez, rz⟩
 ·obtain ⟨i, hi, e⟩ := getElem_of_mem hy
  have hx : xs[i]? = some (xs[i]'Z1) := getElem?_eq_getElem Z1
  obtain ⟨z, ez, _, nz⟩ := hys i _ hx
  rw [getElem?_eq_getElem hi, e] at ez
  cases ez
  exact nz
theorem sF (i j : Nat) (h : pX i j = false := by rfl) (hi : i <= 5 := by decide) (hj : j <= 5 := by decide) : decide (V.str (fG i) = V.str (fG j)) = false := (DN hi hj).trans h
theorem sT (i : Nat) : decide (V.str (fG i) = V.str (fG i)) = true := decide_eq_true rfl
theorem six {n : Nat} (h : n <= 5) : n = 0 \/ n = 1 \/ n = 2 \/ n = 3 \/ n = 4 \/ n = 5 := by
 cases n with
 | zero => exact .inl rfl
 | succ n => cases n with
  | zero => exact .inr (.inl rfl)
  | succ n => cases n with
   | zero => exact .inr (.inr (.inl rfl))
   | succ n => cases n with
    | zero => exact .inr (.inr (.inr (.inl rfl)))
    | succ n => cases n with
     | zero => exact .inr (.inr (.inr (.inr (.inl rfl))))
     | succ n => cases n with
      | zero => exact .inr (.inr (.inr (.inr (.inr rfl))))
      | succ n => exact absurd h Z1
def dal : List V := [V.str "draw", V.str "late", V.str "take"]
theorem bc {H : Hp} {C x dx : Addr} (hx : H x = none) (hdx : H dx = none) : au H (upd (upd H dx (.own x)) x (.ins C dx [])) := fun b o e => by
 rw [aF (aD e hx), aF (aD e hdx)]
 exact e
structure Uu (K : Frag) (C : Addr) : Prop where
 cl : RCl K C
 na : cF K C "address"
 nr : cF K C "rows"
 kit : kitOne K (.ref C) (.ref C) = some true
structure mQ (rs : List cB) : Prop where
 hi : rs.length <= 12
 ok : ∀ r ∈ rs, GoodR r
theorem mQ.at {rs : List cB} (g : mQ rs) {i : Nat} {r : cB} (h : rs[i]? = some r) : GoodR r := g.ok r (mem_of_getElem? h)
def oZ (C : Nat -> Addr) (H : Hp) (l : Addr) (rs : List cB) : Prop := ∃ xs : List V, H l = some (.lst xs) /\ xs.length = rs.length /\ ∀ (i : Nat) r, rs[i]? = some r -> ∃ a t, xs[i]? = some (.ref a) /\ dJ C H a t r
theorem oZ.same {C : Nat -> Addr} {H H' : Hp} {l : Addr} {rs : List cB} (h : oZ C H l rs) (s : au H H') : oZ C H' l rs := by
 obtain ⟨xs, hl, hn, hx⟩ := h
 refine ⟨xs, s _ _ hl, hn, fun i r e => ?_⟩
 obtain ⟨a, t, e2, ra⟩ := hx i r e
 exact ⟨a, t, e2, ra.same s⟩
def fK (C : Nat -> Addr) (H : Hp) (p : Addr) (ad : Str) (l : Addr) (rs : List cB) : Prop := ∃ dx fs, H p = some (.ins (C 7) dx fs) /\ fs.lookup ("address" : Str) = some (.str ad) /\ fs.lookup ("rows" : Str) = some (.ref l) /\
 fs.lookup ("bound" : Str) = none /\ fs.lookup ("place_of" : Str) = none /\ fs.lookup ("text" : Str) = none /\ oZ C H l rs
theorem fK.same {C : Nat -> Addr} {H H' : Hp} {p : Addr} {ad : Str} {l : Addr} {rs : List cB} (h : fK C H p ad l rs) (s : au H H') : fK C H' p ad l rs := by
 obtain ⟨dx, fs, e, a1, a2, a3, a4, a5, r⟩ := h
 exact ⟨dx, fs, s _ _ e, a1, a2, a3, a4, a5, r.same s⟩
theorem kZ.but {H H' : Hp} {l x C dx : Addr} {ts : List Trm} {fs : List (Str × V)} (h : kZ H l ts) (hx : H x = some (.ins C dx fs)) (s : SameBut x H H') : kZ H' l ts := by
 obtain ⟨xs, hl, hn, ht⟩ := h
 refine ⟨xs, s _ _ hl (kI hl hx Z7), hn, fun i v e => ?_⟩
 obtain ⟨t, et, tm⟩ := ht i v e
 exact ⟨t, et, tm.but hx s⟩
theorem dJ.but {C : Nat -> Addr} {H H' : Hp} {a t x D dx : Addr} {r : cB} (h : dJ C H a t r) (g : GoodR r) (hx : H x = some (.ins D dx [])) (s : SameBut x H H') : dJ C H' a t r := by
 obtain ⟨dy, fs, e, f⟩ := h
 have ne : a ≠ x := fun z => by
  rw [z, hx] at e
  cases e
  rcases lt_or_ge r.so 5 with k | k
  ·exact absurd (f.nm k) Z7
  ·exact absurd (f.tm (.inr (.inr (Nat.le_antisymm g.so k)))).1 Z7
 exact ⟨dy, fs, s _ _ e ne, f.nm, fun k => ⟨(f.tm k).1, (f.tm k).2.but hx s⟩, f.ad, f.wd, f.nb, f.na, f.ns⟩
def isE (v : V) : Bool := !decide (v = .str "")
def o6 (rs : List cB) : List V := (rs.map fun r => V.str r.nm).filter isE
def Dk (C : Nat -> Addr) : Sp := fun vs H Q _ => ∃ (x dx : Addr) (ad : Str) (d : Addr) (rs : List cB), vs = [.ref x, .str ad, .ref d] /\ H x = some (.ins (C 7) dx []) /\ oZ C H d rs /\ mQ rs /\
 ∀ l H', H l = none -> SameBut x H H' -> fK C H' x ad l rs -> Q .non H'
def zJ (C : Nat -> Addr) : Sp := fun vs H Q _ => ∃ (p : Addr) (ad : Str) (l : Addr) (rs : List cB), vs = [.ref p] /\ fK C H p ad l rs /\ mQ rs /\ ∀ b H', H b = none -> au H H' -> H' b = some (.lst (o6 rs)) -> Q (.ref b) H'
theorem yS {rs : List cB} {v : V} (h : v ∈ o6 rs) : ∃ r ∈ rs, v = .str r.nm /\ r.nm ≠ "" := by
 obtain ⟨h1, h2⟩ := mem_filter.mp h
 obtain ⟨r, hr, rfl⟩ := mem_map.mp h1
 refine ⟨r, hr, rfl, fun e => ?_⟩
 rw [e] at h2
 exact absurd h2 Z4
theorem yr {x : Str} {xs : List V} (h : ∀ v ∈ xs, ∃ z, v = .str z /\ z ≠ x) : inV (.str x) xs = false := by
 unfold inV
 rw [any_eq_false]
 intro v hv k
 obtain ⟨z, rfl, hz⟩ := h v hv
 exact hz (by simpa [eqV] using k)
theorem Cu {K : Frag} {H : Hp} {n : Nat} {v : V} (h : cW v = true \/ ∃ p, v = .ref p) : DEq K H n v v := by
 rcases h with h | ⟨p, rfl⟩
 ·cases v with
  | non => exact .non
  | bl b => exact .bl b
  | int i => exact .int i
  | str x => exact .str x
  | _ => cases h
 ·exact .same p
structure TF (K : Frag) (C : Addr) : Prop where
 cl : RCl K C
 nt : cF K C "told"
structure bA where
 ad : List Str
 rs : List cB
def adS (ps : List bA) : List Str := ps.map fun p => dotted p.ad
structure Cq (p : bA) : Prop where
 ad : cO p.ad
 rs : mQ p.rs
def nQ (C : Nat -> Addr) (H : Hp) (l : Addr) (ps : List bA) : Prop := ∃ xs : List V, H l = some (.lst xs) /\ xs.length = ps.length /\ ∀ (i : Nat) p, ps[i]? = some p -> ∃ a lr, xs[i]? = some (.ref a) /\ fK C H a (dotted p.ad) lr p.rs
theorem nQ.same {C : Nat -> Addr} {H H' : Hp} {l : Addr} {ps : List bA} (h : nQ C H l ps) (s : au H H') : nQ C H' l ps := by
 obtain ⟨xs, hl, hn, hx⟩ := h
 refine ⟨xs, s _ _ hl, hn, fun i r e => ?_⟩
 obtain ⟨a, t, e2, ra⟩ := hx i r e
 exact ⟨a, t, e2, ra.same s⟩
structure bO (ps : List bA) : Prop where
 hi : ps.length <= 12
 ok : ∀ p ∈ ps, Cq p
 nd : (adS ps).Nodup
 up : ∀ p ∈ ps, p.ad.dropLast = [] \/ dotted p.ad.dropLast ∈ adS ps
 cl : ∀ p ∈ ps, ∀ r ∈ p.rs, r.nm ≠ "" -> dotted p.ad ++ "." ++ r.nm ∉ adS ps
theorem bO.at {ps : List bA} (g : bO ps) {i : Nat} {p : bA} (h : ps[i]? = some p) : Cq p := g.ok p (mem_of_getElem? h)
def dF (C : Nat -> Addr) (H : Hp) (h l : Addr) (ps : List bA) : Prop := ∃ dx fs, H h = some (.ins (C 8) dx fs) /\ fs.lookup ("told" : Str) = some (.ref l) /\ fs.lookup ("addresses" : Str) = none /\ fs.lookup ("has" : Str) = none /\ fs.lookup ("part" : Str) = none /\ nQ C H l ps
theorem dF.same {C : Nat -> Addr} {H H' : Hp} {h l : Addr} {ps : List bA} (x : dF C H h l ps) (s : au H H') : dF C H' h l ps := by
 obtain ⟨dx, fs, e, a1, a2, a3, a4, r⟩ := x
 exact ⟨dx, fs, s _ _ e, a1, a2, a3, a4, r.same s⟩
def jz (ys : List Str) : Str := if ys.dropLast = [] then "" else dotted ys.dropLast
theorem il (b : Str) : dotted [b] = b := by rw [cj]; rfl
theorem Jt {ys : List Str} (g : cO ys) : (Txt.rpartition (dotted ys) ("." : Str)).1 = jz ys := by
 unfold jz
 obtain ⟨xs, b, rfl⟩ : ∃ xs b, ys = xs ++ [b] := ⟨ys.dropLast, ys.getLast g.lo, (List.dropLast_concat_getLast g.lo).symm⟩
 rw [List.dropLast_concat]
 have hb : cQ b := g.nm b Z2
 by_cases h : xs = []
 ·subst h
  rw [if_pos rfl, nil_append, il, By b hb]
  rfl
 ·rw [if_neg h, qM xs b h hb]
def rA : Sp := fun vs H Q _ => ∃ ys : List Str, vs = [.str (dotted ys)] /\ cO ys /\ Pur (.str (jz ys)) H Q
def xO (C : Nat -> Addr) : Sp := fun vs H Q _ => ∃ (p l la : Addr) (ys zs : List Str) (rs : List cB), vs = [.ref p, .ref la] /\ fK C H p (dotted ys) l rs /\ cO ys /\ H la = some (.lst (zs.map V.str)) /\ (ys.dropLast = [] \/ dotted ys.dropLast ∈ zs) /\ Pur (.bl false) H Q
def Ad (C : Nat -> Addr) : Sp := fun vs H Q _ => ∃ (p l la : Addr) (ys zs : List Str) (rs : List cB), vs = [.ref p, .ref la] /\ fK C H p (dotted ys) l rs /\ cO ys /\ mQ rs /\ H la = some (.lst (zs.map V.str)) /\ (∀ r ∈ rs, r.nm ≠ "" -> dotted ys ++ "." ++ r.nm ∉ zs) /\ Pur (.bl false) H Q
def za (C : Nat -> Addr) : Sp := fun vs H Q _ => ∃ (l : Addr) (ps : List bA), vs = [.ref l] /\ nQ C H l ps /\ bO ps /\ Pur .non H Q
def jN (C : Nat -> Addr) (H : Hp) (xs : List V) (ps : List bA) : Prop := xs.length = ps.length /\ ∀ (i : Nat) p, ps[i]? = some p -> ∃ a lr, xs[i]? = some (.ref a) /\ fK C H a (dotted p.ad) lr p.rs
theorem jN.same {C : Nat -> Addr} {H H' : Hp} {xs : List V} {ps : List bA} (h : jN C H xs ps) (s : au H H') : jN C H' xs ps := ⟨h.1, fun i p e => by
 obtain ⟨a, lr, e2, pa⟩ := h.2 i p e
 exact ⟨a, lr, e2, pa.same s⟩⟩
def zH (C : Nat -> Addr) (H : Hp) (h l : Addr) : Prop := ∃ dx fs, H h = some (.ins (C 8) dx fs) /\ fs.lookup ("told" : Str) = some (.ref l) /\ fs.lookup ("addresses" : Str) = none /\ fs.lookup ("has" : Str) = none /\ fs.lookup ("part" : Str) = none
theorem jr {C : Nat -> Addr} {H : Hp} {h l : Addr} {xs : List V} {ps : List bA} (hd : zH C H h l) (hl : H l = some (.lst xs)) (px : jN C H xs ps) : dF C H h l ps := by
 obtain ⟨dx, fs, e, a1, a2, a3, a4⟩ := hd
 exact ⟨dx, fs, e, a1, a2, a3, a4, xs, hl, px.1, px.2⟩
def Dd (C : Nat -> Addr) : Sp := fun vs H Q _ => ∃ (x dx d : Addr) (ps : List bA) (xs : List V), vs = [.ref x, .ref d] /\ H x = some (.ins (C 8) dx []) /\ H d = some (.lst xs) /\ jN C H xs ps /\ bO ps /\ ∀ l H', H l = none -> SameBut x H H' -> zH C H' x l -> H' l = some (.lst xs) -> Q .non H'
def vo (C : Nat -> Addr) : Sp := fun vs H Q _ => ∃ (h l : Addr) (ps : List bA), vs = [.ref h] /\ dF C H h l ps /\ bO ps /\ ∀ b H' zs, H b = none -> au H H' -> zs.Perm (adS ps) -> sortedS zs = true -> H' b = some (.lst (zs.map V.str)) -> Q (.ref b) H'
theorem G9 {ps : List bA} {i : Nat} (hi : i < ps.length) : ((adS ps).map V.str).getD i .non = V.str (dotted ps[i].ad) := by simp [adS, List.getD, hi]
theorem Ac {ps : List bA} {n : Nat} (hn : n = ps.length) : (List.range n).map (fun i => ((adS ps).map V.str).getD i .non) = (adS ps).map V.str := by
 apply ext_getElem
 ·simp [adS, hn]
 ·intro i h1 h2
  have : i < ps.length := by simpa [adS] using h2
  simp [adS, this]
theorem Ai {ps : List bA} (nd : (adS ps).Nodup) {i : Nat} {p : bA} (h : ps[i]? = some p) : inV (.str (dotted p.ad)) (((adS ps).take i).map V.str) = false := yr fun v hv => by
 obtain ⟨z, hz, rfl⟩ := mem_map.mp hv
 refine ⟨z, rfl, fun e => ?_⟩
 obtain ⟨j, hj, ej⟩ := getElem_of_mem hz
 have hji : j < i := lt_of_lt_of_le hj (length_take_le i _)
 have e1 : (adS ps)[i]? = some (dotted p.ad) := by unfold adS; rw [getElem?_map, h]; rfl
 have e2 : (adS ps)[j]? = some z := by
  have : ((adS ps).take i)[j]? = some z := by rw [getElem?_eq_getElem hj, ej]
  rw [getElem?_take] at this
  simpa [hji] using this
 have hl := (List.getElem?_eq_some_iff.mp e2).1
 exact absurd ((getElem?_inj hl nd).mp (by rw [e1, e2, e])) (ne_of_lt hji)
theorem K8 {a b : Str} (ha : a.length <= 1000) (hb : b.length <= 6000) : (a ++ b).length <= sizeLine := by
 rw [uY, sizeLine_eq]; omega
def Hl (C : Addr) (g : Str) : Sp := fun vs H Q _ => ∃ x y, vs = [.ref x, y] /\ H x = some (ExO true x C none) /\ (∃ z : Str, y = .str z /\ z.length <= 1000) /\ ∀ p, H p = none -> p ≠ x -> Q .non (upd (upd H p (XdO p [(g, y)])) x (ExO true x C (some p)))
def vY (C : Nat -> Addr) (H : Hp) (x : Addr) (z : Str) : Prop := ∃ q, H x = some (ExO false x (C 21) (some q)) /\ H q = some (XdO q [("address", .str z)])
def zZ (C : Nat -> Addr) : Sp := fun vs H Q E => ∃ (h l : Addr) (ps : List bA) (z : Str), vs = [.ref h, .str z] /\ dF C H h l ps /\ bO ps /\ z.length <= 1000 /\
 (∀ (i : Nat) p a lr H', au H H' -> ps[i]? = some p -> dotted p.ad = z -> fK C H' a (dotted p.ad) lr p.rs -> Q (.ref a) H') /\ (z ∉ adS ps -> ∀ x H', au H H' -> vY C H' x z -> E (.ref x) none H')
def lt1 (b : Int) : Str := ⟨#[97 + b.toNat]⟩
theorem Ij {xs : List V} (h : ∀ (i : Nat) v, xs[i]? = some v -> ∃ b : Int, v = V.str (lt1 b) /\ 0 <= b /\ b < 26) : ∃ bs : List Int, bs.length = xs.length /\ xs = (bs.map lt1).map V.str /\ vd bs := by
 obtain ⟨bs, hl, hb⟩ := gw (fun _ v b => v = V.str (lt1 b) /\ 0 <= b /\ b < 26) xs 0 (fun i v e => h i v e)
 have em : xs = (bs.map lt1).map V.str := by
  apply ext_getElem?
  intro i
  rw [getElem?_map, getElem?_map]
  cases e : xs[i]? with
  | none =>
   have e2 : bs[i]? = none := by
    rw [List.getElem?_eq_none_iff] at e ⊢
    omega
   rw [e2]; rfl
  | some v =>
   obtain ⟨z, ez, rfl, _⟩ := hb i v e
   rw [ez]; rfl
 refine ⟨bs, hl, em, fun b hb' => ?_⟩
 obtain ⟨i, hi, e⟩ := getElem_of_mem hb'
 obtain ⟨z, ez, _, nz⟩ := hb i _ (getElem?_eq_getElem Z1)
 rw [getElem?_eq_getElem hi, e] at ez
 cases ez
 exact nz
theorem nO (zs : List Str) {k : Int} (h : 0 <= k) : gP (zs.map V.str) none (some k) = (zs.take k.toNat).map V.str := by
 have e := DQ (zs.map V.str) k.toNat
 rw [show ((k.toNat : Nat) : Int) = k from by omega] at e
 rw [e, map_take]
theorem FP (zs : List Str) {a b : Int} (h0 : 0 <= a) (h1 : 0 <= b) (ha : a.toNat <= zs.length) (hb : b.toNat <= zs.length) : gP (zs.map V.str) (some a) (some b) = ((zs.drop a.toNat).take (b.toNat - a.toNat)).map V.str := by
 unfold gP
 have e1 := HT.sIx_nat (zs.map V.str).length 0 a.toNat
 have e2 := HT.sIx_nat (zs.map V.str).length (zs.map V.str).length b.toNat
 rw [show ((a.toNat : Nat) : Int) = a from by omega] at e1
 rw [show ((b.toNat : Nat) : Int) = b from by omega] at e2
 rw [e1, e2, length_map, Nat.min_eq_left ha, Nat.min_eq_left hb, map_take, List.map_drop]
theorem qX (ks : List Int) : Txt.join ("" : Str) (ks.map lt1) = lD ks := FN ks
theorem rH {ks : List Int} (h : ks.length <= 8) : ((ks.map lt1).map (·.length)).sum + (ks.map lt1).length * (("" : Str)).length <= 16777216 := yO h
theorem Ip {as bs : List Int} {c : Int} (ha : vd as) (hb : vd bs) (h0 : 0 <= c) (h1 : c < 26) (h8 : as.length + 1 + bs.length <= 8) : cQ (lD as ++ lt1 c ++ lD bs) := by
 have e : lD as ++ lt1 c ++ lD bs = lD (as ++ [c] ++ bs) := by
  apply jw
  rw [cA, cA, lu, lu, lu]
  simp [lt1]
 rw [e]
 refine Ht Z6 Z6 fun k hk => ?_
 simp only [mem_append, mem_singleton] at hk
 rcases hk with (hk | rfl) | hk
 ·exact ha k hk
 ·exact ⟨h0, h1⟩
 ·exact hb k hk
def HR : List Str := ["let", "be", "draw", "as", "part", "from", "late", "a"]
theorem GR : ∀ z ∈ HR, cQ z := fun z hz => by
 simp only [HR, mem_cons, List.not_mem_nil, or_false] at hz
 rcases hz with rfl | rfl | rfl | rfl | rfl | rfl | rfl | rfl
 all_goals exact qJ Z4
def zK : Sp := fun vs H Q _ => ∃ c : Int, vs = [.int c] /\ ∀ l H' (ws : List Str), H l = none -> au H H' -> ws.length = 8 -> (∀ w ∈ ws, cQ w) -> H' l = some (.lst (ws.map V.str)) -> Q (.ref l) H'
theorem Eo (x : Str) : ¬ (Builtin.Str.strKind x < Builtin.Str.strKind ("." : Str)) := by
 have e : Builtin.Str.strKind ("." : Str) = 1 := by decide +kernel
 rw [e]
 unfold Builtin.Str.strKind
 split
 ·decide
 ·split <;> decide
theorem CG {ys : List Str} (g : cO ys) : Txt.count (dotted ys) ("." : Str) = (ys.length : Int) - 1 := by
 have hs := dm ys g.lo g.nm
 have h1 : 1 <= (dotted ys).length := by
  obtain ⟨y, hy⟩ := List.exists_mem_of_ne_nil ys g.lo
  obtain ⟨c, hc, _⟩ := mF g.lo g.nm
  have := List.length_pos_of_mem hc
  rw [length_toList] at this
  exact this
 have hl := congrArg List.length hs
 unfold Txt.split at hl
 have hd : (("." : Str)).length = 1 := by decide +kernel
 rw [if_neg (by rw [hd, decide_eq_false Z1, decide_eq_false (Eo _)]; decide)] at hl
 unfold Txt.count
 by_cases he : (Builtin.Str.occurrences (dotted ys) "." 0 (dotted ys).length ((dotted ys).length + 1)).isEmpty = true
 ·rw [if_pos he] at hl
  have hl : 1 = ys.length := hl
  rw [List.isEmpty_iff.mp he, <- hl]
  rfl
 ·rw [if_neg he, length_partsBetween] at hl
  omega
theorem pU {p : List Str} {w : Str} (h : p ≠ []) : dotted p ++ "." ++ w = dotted (p ++ [w]) := by
 rw [cj, cj, o7, join_snoc _ _ _ h]
theorem tY {a : List Str} (g : cO a) : dotted a ≠ "" := fun e => by
 obtain ⟨c, hc, _⟩ := mF g.lo g.nm
 have e0 : ("" : Str).cps.toList = [] := by decide +kernel
 rw [e, e0] at hc
 cases hc
structure bL (as : List (List Str)) : Prop where
 hi : as.length <= 12
 ok : ∀ a ∈ as, cO a
 nd : (as.map dotted).Nodup
 up : ∀ a ∈ as, a.dropLast = [] \/ a.dropLast ∈ as
theorem bL.snoc {as : List (List Str)} {a : List Str} (g : bL as) (h : as.length < 12) (ga : cO a) (hn : dotted a ∉ as.map dotted) (hu : a.dropLast = [] \/ a.dropLast ∈ as) : bL (as ++ [a]) := by
 refine ⟨by rw [length_append]; show as.length + 1 <= 12; omega, fun b hb => ?_, ?_, fun b hb => ?_⟩
 ·rcases mem_append.mp hb with hb | hb
  ·exact g.ok b hb
  ·rw [mem_singleton.mp hb]; exact ga
 ·rw [map_append]
  exact vO g.nd hn
 ·rcases mem_append.mp hb with hb | hb
  ·exact (g.up b hb).imp id (mem_append_left _)
  ·rw [mem_singleton.mp hb]
   exact hu.imp id (mem_append_left _)
theorem bL.rev {as : List (List Str)} (g : bL as) : bL as.reverse := by
 refine ⟨by rw [length_reverse]; exact g.hi, fun b hb => g.ok b (mem_reverse.mp hb), ?_, fun b hb => (g.up b (mem_reverse.mp hb)).imp id mem_reverse.mpr⟩
 rw [map_reverse]
 exact List.pairwise_reverse.mpr (List.Pairwise.imp (fun h => Ne.symm h) g.nd)
theorem dO {zs : List Str} {c k : Int} (h : zs ≠ []) : ∃ z ∈ zs, atI (zs.map V.str) (pick c k zs.length) = some (V.str z) := by
 have hl : 0 < (zs.length : Int) := by have := length_pos_iff.mpr h; omega
 have h1 := fc c k hl
 have h2 := gb c k hl
 have h3 : (pick c k zs.length).toNat < zs.length := by omega
 refine ⟨zs[(pick c k zs.length).toNat], getElem_mem h3, ?_⟩
 have := bf (xs := zs.map V.str) (j := (pick c k zs.length).toNat) (v := V.str zs[(pick c k zs.length).toNat]) (by rw [getElem?_map, getElem?_eq_getElem h3]; rfl)
 rwa [show (((pick c k zs.length).toNat : Nat) : Int) = pick c k zs.length from by omega] at this
def DX : Sp := fun vs H Q _ => ∃ (c n : Int) (lw : Addr) (ws : List Str), vs = [.int c, .int n, .ref lw] /\ 1 <= n /\ n <= 12 /\ H lw = some (.lst (ws.map V.str)) /\ ws.length = 8 /\ (∀ w ∈ ws, cQ w) /\
 ∀ l H' (as : List (List Str)), H l = none -> au H H' -> as ≠ [] -> bL as -> H' l = some (.lst ((as.map dotted).map V.str)) -> Q (.ref l) H'
def dX (v : V) : Bool := match v with | .str z => decide (Txt.count z "." < 2) | _ => false
theorem Ez {as : List (List Str)} (g : bL as) {v : V} (h : v ∈ ((as.map dotted).map V.str).filter dX) : ∃ a ∈ as, v = .str (dotted a) /\ a.length <= 2 := by
 obtain ⟨h1, h2⟩ := mem_filter.mp h
 obtain ⟨z, hz, rfl⟩ := mem_map.mp h1
 obtain ⟨a, ha, rfl⟩ := mem_map.mp hz
 have h3 : Txt.count (dotted a) "." < 2 := of_decide_eq_true h2
 rw [CG (g.ok a ha)] at h3
 exact ⟨a, ha, rfl, Z1⟩
theorem c7 (zs : List Str) (p : V -> Bool) : (zs.map V.str).filter p = (zs.filter fun z => p (.str z)).map V.str := by rw [List.filter_map]; rfl
def zO : Sp := fun vs H Q _ => ∃ (c : Int) (la lw : Addr) (as : List (List Str)) (ws : List Str), vs = [.int c, .ref la, .ref lw] /\ H la = some (.lst ((as.map dotted).map V.str)) /\ as ≠ [] /\ bL as /\ H lw = some (.lst (ws.map V.str)) /\ ws.length = 8 /\ (∀ w ∈ ws, cQ w) /\ ∀ ys, cO ys -> Pur (.str (dotted ys)) H Q
theorem N6 : cQ ("a" : Str) := qJ Z4
theorem zA {w : Str} (h : cQ w) : cO [w] := ⟨Z2, (by show 1 <= 3; decide), fun y hy => by rw [mem_singleton.mp hy]; exact h⟩
theorem Bw {p : List Str} {w : Str} (gp : cO p) (h2 : p.length <= 2) (nw : cQ w) : cO (p ++ [w]) := ⟨Z2, by rw [length_append]; show p.length + 1 <= 3; omega, fun y hy => by
 rcases mem_append.mp hy with hy | hy
 ·exact gp.nm y hy
 ·rw [mem_singleton.mp hy]; exact nw⟩
structure G4 (so : Nat) (nm ad wd : Str) : Prop where
 h5 : so <= 5
 hn : so < 5 -> cQ nm
 h0 : so = 5 -> nm = ""
 ha : (ad = "" /\ so = 5) \/ ∃ ys, cO ys /\ ad = dotted ys /\ cQ wd
def zU (C : Nat -> Addr) : Sp := fun vs H Q _ => ∃ (p : Addr) (so : Nat) (nm ad wd : Str), vs = [.ref p] /\ H p = some (.tup [.str (fG so), .str nm, .str ad, .str wd]) /\ G4 so nm ad wd /\
 ∀ a l H' r, GoodR r -> r.so = so -> r.nm = nm -> (so < 5 -> r.ad = ad /\ r.wd = wd) -> au H H' -> H a = none -> H l = none -> dJ C H' a l r -> Q (.ref a) H'
theorem Ii : yt [⟨1, .num 1⟩] := ⟨Z2, Z0, (fun t ht => by rw [mem_singleton.mp ht]; exact ⟨.inl rfl, (by show 1 < 10 ^ 20; decide)⟩), fun t ht => by cases ht; rfl⟩
theorem Fv {ys : List Str} {w : Str} (g : cO ys) (h : cQ w) : yt [⟨1, .nms false ys⟩, ⟨-1, .nms false [w]⟩] := by
 refine ⟨Z2, (by show 2 <= 6; decide), fun t ht => ?_, fun t ht => by cases ht; rfl⟩
 simp only [mem_cons, List.not_mem_nil, or_false] at ht
 rcases ht with rfl | rfl
 ·exact ⟨.inl rfl, g.lo, le_trans g.hi Z0, g.nm⟩
 ·exact ⟨.inr rfl, Z2, (by show 1 <= 4; decide), fun y hy => by rw [mem_singleton.mp hy]; exact h⟩
def Pk (K : Frag) (n : Bool) : R2 := fun x y H Q => ∃ a b xs, x = .ref a /\ y = .ref b /\ SqL K H a xs /\ SqL K H b [] /\ Q (.bl (xs.isEmpty == n)) H
theorem Cv {X : Cx} {K : Frag} (hK : X.K = K) (hu : X.A.units + 64 < cLine) : OpR X (compareOp .Eq) (Pk K true) := by
 subst hK
 intro pins s σ H x y v u Q I rx ry h
 obtain ⟨a, b, xs, rfl, rfl, ha, hb, q⟩ := h
 cases rx; cases ry
 obtain ⟨us, r1, p1, _⟩ := I.list ha
 obtain ⟨ws, r2, p2, _⟩ := I.list hb
 cases r2
 cases r1 with
 | nil => exact SeqAt.eq_listAt (e := fun _ => true) p1.isList p2.isList rfl Z1 (fun j h1 h2 => absurd h1 (not_lt_zero _)) ⟨.bl true, H, I, rfl, q⟩
 | cons r t => exact SeqAt.eq_list_lengthsAt p1.isList p2.isList Z2 Z1 ⟨.bl false, H, I, rfl, q⟩
theorem De {X : Cx} {K : Frag} (hK : X.K = K) (hu : X.A.units + 64 < cLine) : OpR X (compareOp .NotEq) (Pk K false) := by
 subst hK
 intro pins s σ H x y v u Q I rx ry h
 obtain ⟨a, b, xs, rfl, rfl, ha, hb, q⟩ := h
 cases rx; cases ry
 obtain ⟨us, r1, p1, _⟩ := I.list ha
 obtain ⟨ws, r2, p2, _⟩ := I.list hb
 cases r2
 cases r1 with
 | nil =>
  have := SeqAt.RcNeAt.lists (A := X.A) (s := s) (e := fun _ => true) p1.isList p2.isList rfl Z1 fun j h1 h2 => absurd h1 (not_lt_zero _)
  exact this X.prog X.w X.xe _ ⟨.bl false, H, I, rfl, q⟩
 | cons r t =>
  have := SeqAt.RcNeAt.lists_lengths (A := X.A) (s := s) p1.isList p2.isList Z2 Z1
  exact this X.prog X.w X.xe _ ⟨.bl true, H, I, rfl, q⟩
theorem Io {z : Str} (h : (!(Builtin.Str.occurrences z ("." : Str) 0 z.length 1).isEmpty) = true) : 46 ∈ z.cps.toList := by
 have hne : Builtin.Str.occurrences z ("." : Str) 0 z.length 1 ≠ [] := fun e => by rw [e] at h; cases h
 obtain ⟨i, hi⟩ := List.exists_mem_of_ne_nil _ hne
 obtain ⟨h1, h2⟩ := StrLaws.occ_spec _ _ _ _ _ _ hi
 rw [o7] at h1 h2
 exact mem_of_getElem? ((rP z 46 i).mp ⟨h1, h2⟩)
def pI (v : V) : Bool := match v with | .str z => !(Builtin.Str.occurrences z ("." : Str) 0 z.length 1).isEmpty | _ => false
theorem yD {as : List (List Str)} (g : bL as) {z : Str} (h : z ∈ (as.map dotted).filter fun z => pI (.str z)) : ∃ xs b, xs ++ [b] ∈ as /\ z = dotted (xs ++ [b]) /\ xs ≠ [] := by
 obtain ⟨h1, h2⟩ := mem_filter.mp h
 obtain ⟨a, ha, rfl⟩ := mem_map.mp h1
 have ga := g.ok a ha
 have h46 := Io h2
 obtain ⟨xs, b, rfl⟩ : ∃ xs b, a = xs ++ [b] := ⟨a.dropLast, a.getLast ga.lo, (List.dropLast_concat_getLast ga.lo).symm⟩
 refine ⟨xs, b, ha, rfl, fun e => ?_⟩
 subst e
 rw [nil_append, il] at h46
 exact (ga.nm b Z2).nodot h46
theorem Fl {xs : List Str} {b : Str} : atI ((xs ++ [b]).map V.str) (-1) = some (V.str b) := by
 unfold atI ixN
 rw [if_neg Z0, if_pos Z6]
 simp only [length_map, length_append, List.length_singleton, bind_some, map_append]
 rw [show (-1 + ((xs.length + 1 : Nat) : Int)).toNat = xs.length from by omega, getElem?_append_right Z2]
 simp
def Hh : List V := [.str "draw", .str "late", .str "take", .str "draw", .str "take", .str "let", .str "deed", .str "need"]
theorem Dt {k : Int} (h0 : 0 <= k) (h1 : k < 8) : ∃ so, so <= 5 /\ atI Hh k = some (V.str (fG so)) := by
 rcases (by omega : k = 0 \/ k = 1 \/ k = 2 \/ k = 3 \/ k = 4 \/ k = 5 \/ k = 6 \/ k = 7) with rfl | rfl | rfl | rfl | rfl | rfl | rfl | rfl
 ·exact ⟨2, Z0, bf (j := 0) rfl⟩
 ·exact ⟨3, Z0, bf (j := 1) rfl⟩
 ·exact ⟨4, Z0, bf (j := 2) rfl⟩
 ·exact ⟨2, Z0, bf (j := 3) rfl⟩
 ·exact ⟨4, Z0, bf (j := 4) rfl⟩
 ·exact ⟨0, Z0, bf (j := 5) rfl⟩
 ·exact ⟨1, Z0, bf (j := 6) rfl⟩
 ·exact ⟨5, Z0, bf (j := 7) rfl⟩
def yU : Sp := fun vs H Q _ => ∃ (c : Int) (lk la lw : Addr) (ks : List Str) (as : List (List Str)) (ws : List Str), vs = [.int c, .ref lk, .ref la, .ref lw] /\ H lk = some (.lst (ks.map V.str)) /\ H la = some (.lst ((as.map dotted).map V.str)) /\ as ≠ [] /\ bL as /\ H lw = some (.lst (ws.map V.str)) /\ ws.length = 8 /\ (∀ w ∈ ws, cQ w) /\
 ∀ p H' so nm ad wd, H p = none -> au H H' -> H' p = some (.tup [.str (fG so), .str nm, .str ad, .str wd]) -> G4 so nm ad wd -> (so < 5 -> nm ∈ ws /\ nm ∉ ks) -> Q (.ref p) H'
theorem zN : ∀ (p : Str) (l : List Str), risingS p l = true -> (p :: l).Pairwise fun a b => a.cps.toList <= b.cps.toList
 | p, [], _ => by simp
 | p, x :: r, h => by
  have h : (!ltCps x.cps.toList p.cps.toList && risingS x r) = true := h
  rw [and_eq_true] at h
  have h1 : ¬ (x.cps.toList < p.cps.toList) := by
   have := h.1
   rw [ltCps_eq] at this
   simpa using this
  have ih := zN x r h.2
  have hpx : p.cps.toList <= x.cps.toList := List.not_lt.mp h1
  refine List.Pairwise.cons (fun c hc => ?_) ih
  rcases mem_cons.mp hc with rfl | hc
  ·exact hpx
  ·exact List.le_trans hpx ((List.pairwise_cons.mp ih).1 c hc)
theorem oO : ∀ {l : List Str}, sortedS l = true -> l.Pairwise fun a b => a.cps.toList <= b.cps.toList
 | [], _ => .nil
 | x :: r, h => zN x r h
theorem ik {a b : List Str} (p : a.Perm b) (ha : sortedS a = true) (hb : sortedS b = true) : a = b :=
 eq_of_pairwise (fun a b _ _ h1 h2 => jw (List.le_antisymm h1 h2)) (oO ha) (oO hb) p
theorem Bv (zs : List Str) : ∀ v ∈ zs.map V.str, cW v = true \/ ∃ p, v = .ref p := fun v hv => by
 obtain ⟨z, _, rfl⟩ := mem_map.mp hv
 exact .inl rfl
theorem aP.u1 {k : Nat} {A : Around} (r : aP k A) : A.units + 1 < cLine := by have := r.units; omega
structure Q4 where
 so : Nat
 nm : Str
 ad : Str
 wd : Str
def TupAt (H : Hp) (p : Addr) (d : Q4) : Prop := H p = some (.tup [.str (fG d.so), .str d.nm, .str d.ad, .str d.wd])
def gB (H : Hp) (l : Addr) (ds : List Q4) : Prop := ∃ xs : List V, H l = some (.lst xs) /\ xs.length = ds.length /\ ∀ (i : Nat) d, ds[i]? = some d -> ∃ p, xs[i]? = some (.ref p) /\ TupAt H p d
theorem gB.same {H H' : Hp} {l : Addr} {ds : List Q4} (h : gB H l ds) (s : au H H') : gB H' l ds := by
 obtain ⟨xs, hl, hn, hx⟩ := h
 exact ⟨xs, s _ _ hl, hn, fun i d e => by obtain ⟨p, e2, t⟩ := hx i d e; exact ⟨p, e2, s _ _ t⟩⟩
theorem gB.off {H : Hp} {l b : Addr} {ds : List Q4} {o : HO} (h : gB H l ds) (hl : l ≠ b) (hb : ∀ ys, H b ≠ some (.tup ys)) : gB (upd H b o) l ds := by
 obtain ⟨xs, hx, hn, ht⟩ := h
 refine ⟨xs, by rw [aF hl]; exact hx, hn, fun i d e => ?_⟩
 obtain ⟨p, e2, t⟩ := ht i d e
 exact ⟨p, e2, by unfold TupAt; rw [aF (fun z => hb _ (z ▸ t))]; exact t⟩
structure DictAt (H0 H : Hp) (R : Addr) (as : List (List Str)) (n : Nat) (L : Nat -> Addr) (rs : Nat -> List Q4) : Prop where
 r0 : H0 R = none
 l0 : ∀ i, i < n -> H0 (L i) = none
 dk : ∃ kvs : List (Key × V), H R = some (.dK kvs) /\ kvs.length <= n /\ ∀ (i : Nat) a, i < n -> as[i]? = some a -> dR kvs (.inr (dotted a)) = some (.ref (L i))
 ts : ∀ i, i < n -> gB H (L i) (rs i)
 ap : ∀ i j, i < n -> j < n -> L i = L j -> i = j
structure du (as : List (List Str)) (rs : Nat -> List Q4) : Prop where
 hi : ∀ i, i < as.length -> (rs i).length <= 12
 g4 : ∀ i, i < as.length -> ∀ d ∈ rs i, G4 d.so d.nm d.ad d.wd
 cl : ∀ (i : Nat) a, as[i]? = some a -> ∀ d ∈ rs i, d.so < 5 -> dotted a ++ "." ++ d.nm ∉ as.map dotted
theorem zV {as : List (List Str)} (nd : (as.map dotted).Nodup) {i j : Nat} {a b : List Str} (ha : as[i]? = some a) (hb : as[j]? = some b) (h : i ≠ j) : dotted a ≠ dotted b := fun e => by
 have e1 : (as.map dotted)[i]? = some (dotted a) := by rw [getElem?_map, ha]; rfl
 have e2 : (as.map dotted)[j]? = some (dotted b) := by rw [getElem?_map, hb]; rfl
 exact h ((getElem?_inj (List.getElem?_eq_some_iff.mp e1).1 nd).mp (by rw [e1, e2, e]))
theorem DictAt.same {H0 H H' : Hp} {R : Addr} {as : List (List Str)} {n : Nat} {L : Nat -> Addr} {rs : Nat -> List Q4} (h : DictAt H0 H R as n L rs) (s : au H H') : DictAt H0 H' R as n L rs := by
 obtain ⟨a, b, ⟨kvs, c, d⟩, e, f⟩ := h
 exact ⟨a, b, ⟨kvs, s _ _ c, d⟩, fun i hi => (e i hi).same s, f⟩
theorem DictAt.more {H0 H : Hp} {R b : Addr} {as : List (List Str)} {n : Nat} {L : Nat -> Addr} {rs : Nat -> List Q4} {a : List Str} (nd : (as.map dotted).Nodup) (h : DictAt H0 H R as n L rs) (s : au H0 H) (hb : H b = none) (ha : as[n]? = some a) :
  ∀ kvs, H R = some (.dK kvs) -> kvs.length <= n /\ DictAt H0 (upd (upd H b (.lst [])) R (.dK (putK kvs (.inr (dotted a)) (.ref b)))) R as (n + 1) (fun i => if i = n then b else L i) (fun i => if i = n then [] else rs i) := by
 intro kvs hk
 obtain ⟨r0, l0, ⟨kvs', hk', hl, hv⟩, ts, ap⟩ := h
 rw [hk] at hk'
 cases hk'
 have hbR : R ≠ b := aD hk hb
 have hLb : ∀ i, i < n -> L i ≠ b := fun i hi => by obtain ⟨xs, hx, _⟩ := ts i hi; exact aD hx hb
 refine ⟨hl, r0, fun i hi => ?_, ⟨_, ak, le_trans (gh _ _ _) (Nat.succ_le_succ hl), fun i c hi hc => ?_⟩, fun i hi => ?_, fun i j hi hj e => ?_⟩
 ·by_cases k : i = n
  ·rw [if_pos k]; exact s.free hb
  ·rw [if_neg k]; exact l0 i Z1
 ·rw [lA]
  by_cases k : i = n
  ·subst k
   rw [ha] at hc
   cases hc
   rw [if_pos rfl, if_pos rfl]
  ·rw [if_neg k, if_neg (fun z => zV nd hc ha k (Sum.inr.inj z))]
   exact hv i c Z1 hc
 ·by_cases k : i = n
  ·subst k
   simp only [if_true]
   refine ⟨[], by rw [aF hbR.symm]; exact ak, rfl, fun i d e => by simp at e⟩
  ·simp only [if_neg k]
   obtain ⟨xs, hx, hn, ht⟩ := ts i Z1
   have hR : L i ≠ R := fun z => by rw [z, hk] at hx; cases hx
   exact (gB.off (H := H) ⟨xs, hx, hn, ht⟩ (hLb i Z1) (fun ys => by rw [hb]; intro z; cases z)).off hR (fun ys => by rw [aF hbR, hk]; intro z; cases z)
 ·by_cases k : i = n
  ·by_cases m : j = n
   ·omega
   ·simp only [if_pos k, if_neg m] at e
    exact absurd e.symm (hLb j Z1)
  ·by_cases m : j = n
   ·simp only [if_neg k, if_pos m] at e
    exact absurd e (hLb i Z1)
   ·simp only [if_neg k, if_neg m] at e
    exact ap i j Z1 Z1 e
theorem DictAt.row {H0 H : Hp} {R p : Addr} {as : List (List Str)} {n i : Nat} {L : Nat -> Addr} {rs : Nat -> List Q4} {d : Q4} (h : DictAt H0 H R as n L rs) (hi : i < n) (hp : TupAt H p d) :
  ∀ xs, H (L i) = some (.lst xs) -> DictAt H0 (upd H (L i) (.lst (xs ++ [.ref p]))) R as n L (fun j => if j = i then rs i ++ [d] else rs j) := by
 intro xs hx
 obtain ⟨r0, l0, ⟨kvs, hk, hl, hv⟩, ts, ap⟩ := h
 have hRi : R ≠ L i := fun z => by rw [z, hx] at hk; cases hk
 have hT : ∀ ys, H (L i) ≠ some (.tup ys) := fun ys => by rw [hx]; intro z; cases z
 refine ⟨r0, l0, ⟨kvs, by rw [aF hRi]; exact hk, hl, hv⟩, fun j hj => ?_, ap⟩
 by_cases k : j = i
 ·subst k
  simp only [if_true]
  obtain ⟨ys, hy, hn, ht⟩ := ts j hj
  rw [hx] at hy
  cases hy
  refine ⟨_, ak, by rw [length_append, length_append, hn]; rfl, fun m e hm => ?_⟩
  have off : ∀ q e, TupAt H q e -> TupAt (upd H (L j) (.lst (xs ++ [.ref p]))) q e := fun q e t => by unfold TupAt; rw [aF (fun z => hT _ (z ▸ t))]; exact t
  rcases lt_or_ge m (rs j).length with z | z
  ·rw [getElem?_append_left z] at hm
   obtain ⟨q, e2, t⟩ := ht m e hm
   exact ⟨q, by rw [getElem?_append_left Z1]; exact e2, off q e t⟩
  ·rw [getElem?_append_right z] at hm
   have hm0 : m - (rs j).length = 0 := by
    have := (List.getElem?_eq_some_iff.mp hm).1
    simp at this
    omega
   rw [hm0] at hm
   cases hm
   exact ⟨p, by rw [getElem?_append_right Z1, hn, hm0]; rfl, off p d hp⟩
 ·simp only [if_neg k]
  exact (ts j hj).off (fun z => k (ap j i hj hi z)) hT
theorem Et {as : List (List Str)} {c k : Int} (h : as ≠ []) : ∃ (i : Nat) (a : List Str), as[i]? = some a /\ atI ((as.map dotted).map V.str) (pick c k (as.map dotted).length) = some (V.str (dotted a)) := by
 obtain ⟨z, hz, e⟩ := dO (zs := as.map dotted) (c := c) (k := k) (by simpa using h)
 obtain ⟨a, ha, rfl⟩ := mem_map.mp hz
 obtain ⟨i, hi, e2⟩ := getElem_of_mem ha
 exact ⟨i, a, by rw [getElem?_eq_getElem hi, e2], e⟩
def vB (a : Str) (v : V) : V := match v with | .str w => .str (a ++ "." ++ w) | v => v
theorem du.row {as : List (List Str)} {rs : Nat -> List Q4} {i : Nat} {a : List Str} {d : Q4} (h : du as rs) (hi : as[i]? = some a) (hl : (rs i).length < 12) (g : G4 d.so d.nm d.ad d.wd) (hc : d.so < 5 -> dotted a ++ "." ++ d.nm ∉ as.map dotted) : du as (fun j => if j = i then rs i ++ [d] else rs j) := by
 refine ⟨fun j hj => ?_, fun j hj e he => ?_, fun j b hb e he h5 => ?_⟩
 ·by_cases k : j = i
  ·simp only [if_pos k, length_append]
   show (rs i).length + 1 <= 12
   omega
  ·simp only [if_neg k]
   exact h.hi j hj
 ·by_cases k : j = i
  ·subst k
   simp only [if_true] at he
   rcases mem_append.mp he with he | he
   ·exact h.g4 j hj e he
   ·rw [mem_singleton.mp he]; exact g
  ·simp only [if_neg k] at he
   exact h.g4 j hj e he
 ·by_cases k : j = i
  ·subst k
   rw [hi] at hb
   cases hb
   simp only [if_true] at he
   rcases mem_append.mp he with he | he
   ·exact h.cl j a hi e he h5
   ·rw [mem_singleton.mp he] at h5 ⊢; exact hc h5
  ·simp only [if_neg k] at he
   exact h.cl j b hb e he h5
theorem Eb {ds : List Q4} {n : Nat} (hn : n = ds.length) : (List.range n).map (fun m => V.str ((ds.map Q4.nm).getD m "")) = (ds.map Q4.nm).map V.str := by
 apply ext_getElem
 ·simp [hn]
 ·intro m h1 h2
  have : m < ds.length := by simpa using h2
  simp [this]
theorem DictAt.get {H0 H H' : Hp} {R : Addr} {as : List (List Str)} {n i : Nat} {L : Nat -> Addr} {rs : Nat -> List Q4} {a : List Str} (h : DictAt H0 H R as n L rs) (hi : i < n) (ha : as[i]? = some a) (s : au H H') : jD H' R (V.str (dotted a)) (some (.ref (L i))) := by
 obtain ⟨kvs, hk, _, hv⟩ := h.dk
 have := jD.k (k := .inr (dotted a)) (s _ _ hk)
 rw [hv i a hi ha] at this
 exact this
def tV (ds : List Q4) (m : Nat) (r : cB) : Prop := ∃ d, ds[m]? = some d /\ GoodR r /\ r.so = d.so /\ r.nm = d.nm /\ (d.so < 5 -> r.ad = d.ad /\ r.wd = d.wd)
def mW (ds : List Q4) (rr : List cB) : Prop := rr.length = ds.length /\ ∀ (m : Nat) r, rr[m]? = some r -> tV ds m r
def BX (K : Frag) : Sp := fun vs H Q _ => ∃ (S la lw : Addr) (ns : List Int) (as : List (List Str)) (ws : List Str), vs = [.ref S, .ref la, .ref lw] /\ SqL K H S (ns.map V.int) /\ H la = some (.lst ((as.map dotted).map V.str)) /\ as ≠ [] /\ bL as /\ H lw = some (.lst (ws.map V.str)) /\ ws.length = 8 /\ (∀ w ∈ ws, cQ w) /\
 ∀ R H' L rs, au H H' -> DictAt H H' R as as.length L rs -> du as rs -> Q (.ref R) H'
def yX (C : Nat -> Addr) : Sp := fun vs H Q _ => ∃ (H0 : Hp) (R la : Addr) (as : List (List Str)) (L : Nat -> Addr) (rs : Nat -> List Q4), vs = [.ref la, .ref R] /\ H la = some (.lst ((as.map dotted).map V.str)) /\ bL as /\ DictAt H0 H R as as.length L rs /\ du as rs /\
 ∀ d H1 xs ps, au H H1 -> H1 d = none -> jN C H1 xs ps -> adS ps = as.map dotted -> bO ps -> (∀ (i : Nat) p, ps[i]? = some p -> as[i]? = some p.ad /\ mW (rs i) p.rs) -> Q (.ref d) (upd H1 d (.lst xs))
def wz (K : Frag) : Sp := fun vs H Q _ => ∃ (S : Addr) (ns : List Int), vs = [.ref S] /\ SqL K H S (ns.map V.int) /\
 ∀ (p lw la R : Addr) (ws : List Str) (as : List (List Str)) L rs H1 H', H' p = some (.tup [.ref lw, .ref la, .ref R]) -> au H H' -> H' lw = some (.lst (ws.map V.str)) -> ws.length = 8 -> (∀ w ∈ ws, cQ w) -> H' la = some (.lst ((as.map dotted).map V.str)) -> as ≠ [] -> bL as -> DictAt H1 H' R as as.length L rs -> du as rs -> Q (.ref p) H'
structure uM (as : List (List Str)) (p : bA) : Prop where
 ok : Cq p
 cl : ∀ r ∈ p.rs, r.nm ≠ "" -> dotted p.ad ++ "." ++ r.nm ∉ as.map dotted
theorem HQ {as : List (List Str)} {ps : List bA} (hl : ps.length = as.length) (h : ∀ (i : Nat) p, ps[i]? = some p -> as[i]? = some p.ad) : adS ps = as.map dotted := by
 unfold adS
 apply ext_getElem
 ·simp [hl]
 ·intro i h1 h2
  have hi : i < ps.length := by simpa using h1
  have hj : i < as.length := by omega
  have := h i _ (getElem?_eq_getElem hi)
  rw [getElem?_eq_getElem hj] at this
  simp [Option.some.inj this]
theorem CW {as : List (List Str)} {ps : List bA} (g : bL as) (hl : ps.length = as.length) (e : adS ps = as.map dotted) (h : ∀ p ∈ ps, p.ad ∈ as /\ uM as p) : bO ps := by
 refine ⟨by rw [hl]; exact g.hi, fun p hp => (h p hp).2.ok, by rw [e]; exact g.nd, fun p hp => ?_, fun p hp r hr hn => by rw [e]; exact (h p hp).2.cl r hr hn⟩
 rw [e]
 exact (g.up _ (h p hp).1).imp id fun z => mem_map.mpr ⟨_, z, rfl⟩
def dM (ys : List Str) : List Str := (List.range ys.length).map fun i => dotted (ys.take (i + 1))
theorem rN (xs : List Str) (b : Str) : dM (xs ++ [b]) = dM xs ++ [dotted (xs ++ [b])] := by
 unfold dM
 rw [length_append, List.length_singleton, List.range_succ, map_append]
 congr 1
 ·refine List.map_congr_left fun i hi => ?_
  have := mem_range.mp hi
  rw [List.take_append_of_le_length Z1]
 ·show [dotted ((xs ++ [b]).take (xs.length + 1))] = _
  rw [List.take_of_length_le Z2]
theorem gR (ys : List Str) : (dM ys).length = ys.length := by unfold dM; rw [length_map, length_range]
def mD (z : Str) : List Str := dM (Txt.split z ("." : Str))
theorem lU {ys : List Str} (g : cO ys) : mD (dotted ys) = dM ys := by
 unfold mD
 rw [dm ys g.lo g.nm]
def eG (r : cB) : List Str := (cZ r).flatMap fun ad => mD ad ++ (if r.so = 4 then [ad ++ "." ++ r.wd] else [])
def linked (p : bA) : List Str := jz p.ad :: p.rs.flatMap eG
theorem ue {r : cB} (g : GoodR r) : (eG r).length <= 4 := by
 unfold eG cZ
 obtain ⟨ys, gy, e⟩ := g.ad
 by_cases c : r.so = 2 \/ r.so = 3 \/ r.so = 4
 ·rw [if_pos c]
  have hp : (mD r.ad).length <= 3 := by rw [e, lU gy, gR]; exact gy.hi
  simp only [flatMap_cons, List.flatMap_nil, append_nil, length_append]
  split
  ·show _ + 1 <= 4; omega
  ·show _ + 0 <= 4; omega
 ·rw [if_neg c]
  exact zero_le _
theorem Bf {rs : List cB} (h : ∀ r ∈ rs, GoodR r) : (rs.flatMap eG).length <= 4 * rs.length := by
 induction rs with
 | nil => simp
 | cons r t ih =>
  rw [flatMap_cons, length_append, length_cons]
  have h1 := ue (h r Z2)
  have h2 := ih fun r hr => h r (mem_cons_of_mem _ hr)
  omega
theorem ph {α : Type} {f : α -> List Str} {rs : List α} {i : Nat} {r : α} (e : rs[i]? = some r) : (rs.take (i + 1)).flatMap f = (rs.take i).flatMap f ++ f r := by
 rw [take_succ, e, List.flatMap_append]
 simp
theorem ie (y : Str) (zs : List Str) : inV (.str y) (zs.map V.str) = decide (y ∈ zs) := by
 by_cases h : y ∈ zs
 ·rw [decide_eq_true h]; exact o9 (mem_map.mpr ⟨y, h, rfl⟩)
 ·rw [decide_eq_false h]
  exact yr fun v hv => by
   obtain ⟨z, hz, rfl⟩ := mem_map.mp hv
   exact ⟨z, rfl, fun e => h (e ▸ hz)⟩
theorem yV (zs ls : List Str) : (zs.map V.str).filter (fun v => inV v (ls.map V.str)) = (zs.filter fun y => decide (y ∈ ls)).map V.str := by
 rw [c7]
 congr 1
 exact filter_congr fun y _ => ie y ls
def gZ (d : Q4) : List Str := (if d.so = 2 \/ d.so = 3 \/ d.so = 4 then mD d.ad else []) ++ (if d.so = 4 then [d.ad ++ "." ++ d.wd] else [])
def nU (a : List Str) : List Str := if a.dropLast = [] then [] else [dotted a.dropLast]
def kO (a : List Str) (ds : List Q4) : List Str := nU a ++ ds.flatMap gZ
theorem NT {d : Q4} (g : G4 d.so d.nm d.ad d.wd) : (gZ d).length <= 4 := by
 unfold gZ
 rw [length_append]
 have h1 : (if d.so = 2 \/ d.so = 3 \/ d.so = 4 then mD d.ad else []).length <= 3 := by
  split
  ·rcases g.ha with ⟨_, z⟩ | ⟨ys, gy, e, _⟩
   ·omega
   ·rw [e, lU gy, gR]; exact gy.hi
  ·simp
 have h2 : (if d.so = 4 then [d.ad ++ "." ++ d.wd] else []).length <= 1 := by split <;> simp
 omega
theorem Bc {ds : List Q4} (h : ∀ d ∈ ds, G4 d.so d.nm d.ad d.wd) : (ds.flatMap gZ).length <= 4 * ds.length := by
 induction ds with
 | nil => simp
 | cons r t ih =>
  rw [flatMap_cons, length_append, length_cons]
  have h1 := NT (h r Z2)
  have h2 := ih fun r hr => h r (mem_cons_of_mem _ hr)
  omega
theorem Dm (a : List Str) : (nU a).length <= 1 := by unfold nU; split <;> simp
theorem An {ds : List Q4} {m : Nat} {r : cB} (h : tV ds m r) : ∃ d, ds[m]? = some d /\ eG r = gZ d := by
 obtain ⟨d, ed, _, e1, _, e2⟩ := h
 refine ⟨d, ed, ?_⟩
 unfold eG gZ cZ
 rw [e1]
 by_cases c : d.so = 2 \/ d.so = 3 \/ d.so = 4
 ·rw [if_pos c, if_pos c]
  obtain ⟨e3, e4⟩ := e2 Z1
  rw [e3, e4]
  simp
 ·rw [if_neg c, if_neg c, if_neg Z1]
  simp
theorem yR {ds : List Q4} {rr : List cB} (h : mW ds rr) : rr.flatMap eG = ds.flatMap gZ := by
 rw [List.flatMap_def, List.flatMap_def]
 congr 1
 apply ext_getElem
 ·simp [h.1]
 ·intro i h1 h2
  have hi : i < rr.length := by simpa using h1
  obtain ⟨d, ed, e⟩ := An (h.2 i _ (getElem?_eq_getElem hi))
  have hd := (List.getElem?_eq_some_iff.mp ed)
  simp [e, hd.2]
theorem yp {p : bA} {ds : List Q4} {y : Str} (h : mW ds p.rs) (hy : y ≠ "") : y ∈ linked p ↔ y ∈ kO p.ad ds := by
 unfold linked kO jz nU
 rw [yR h]
 by_cases c : p.ad.dropLast = []
 ·rw [if_pos c, if_pos c, nil_append, mem_cons]
  exact ⟨fun z => z.resolve_left hy, .inr⟩
 ·rw [if_neg c, if_neg c]
  rfl
theorem ug {zs ys as : List Str} {p q : Str -> Bool} (h1 : zs.Perm as) (h2 : sortedS zs = true) (h3 : ys.Perm (as.filter q)) (h4 : sortedS ys = true) (e : ∀ y ∈ as, p y = q y) : zs.filter p = ys :=
 eq_of_pairwise (fun a b _ _ h1 h2 => jw (List.le_antisymm h1 h2)) ((oO h2).sublist List.filter_sublist) (oO h4) ((h1.filter p).trans (List.Perm.trans (List.Perm.of_eq (filter_congr e)) h3.symm))
theorem qz (ps : List bA) : adS ps.reverse = (adS ps).reverse := by unfold adS; rw [map_reverse]
theorem bO.rev {ps : List bA} (g : bO ps) : bO ps.reverse := by
 refine ⟨by rw [length_reverse]; exact g.hi, fun p hp => g.ok p (mem_reverse.mp hp), ?_, fun p hp => ?_, fun p hp r hr hn => ?_⟩
 ·rw [qz]
  exact List.pairwise_reverse.mpr (List.Pairwise.imp (fun h => Ne.symm h) g.nd)
 ·rw [qz]
  exact (g.up p (mem_reverse.mp hp)).imp id mem_reverse.mpr
 ·rw [qz]
  exact fun z => g.cl p (mem_reverse.mp hp) r hr hn (mem_reverse.mp z)
theorem jN.rev {C : Nat -> Addr} {H : Hp} {xs : List V} {ps : List bA} (h : jN C H xs ps) : jN C H xs.reverse ps.reverse := by
 refine ⟨by rw [length_reverse, length_reverse]; exact h.1, fun i p e => ?_⟩
 have hi : i < ps.length := by have := (List.getElem?_eq_some_iff.mp e).1; rwa [length_reverse] at this
 rw [List.getElem?_reverse hi] at e
 obtain ⟨a, lr, e2, pa⟩ := h.2 _ p e
 exact ⟨a, lr, by rw [List.getElem?_reverse (by rw [h.1]; exact hi), h.1]; exact e2, pa⟩
theorem Ji {a : List Str} (g : cO a) : gP ((dM a).map V.str) (some (-2)) (some (-1)) = (nU a).map V.str := by
 obtain ⟨xs, b, rfl⟩ : ∃ xs b, a = xs ++ [b] := ⟨a.dropLast, a.getLast g.lo, (List.dropLast_concat_getLast g.lo).symm⟩
 unfold nU
 rw [List.dropLast_concat, rN]
 by_cases hx : xs = []
 ·subst hx
  rw [if_pos rfl]
  rfl
 ·rw [if_neg hx]
  obtain ⟨zs, c, rfl⟩ : ∃ zs c, xs = zs ++ [c] := ⟨xs.dropLast, xs.getLast hx, (List.dropLast_concat_getLast hx).symm⟩
  rw [rN]
  have e : ((dM zs ++ [dotted (zs ++ [c])]) ++ [dotted (zs ++ [c] ++ [b])]).map V.str = (dM zs).map V.str ++ [V.str (dotted (zs ++ [c])), V.str (dotted (zs ++ [c] ++ [b]))] := by simp
  rw [e]
  generalize (dM zs).map V.str = us
  unfold gP
  have h1 : (us ++ [V.str (dotted (zs ++ [c])), V.str (dotted (zs ++ [c] ++ [b]))]).length = us.length + 2 := by simp
  rw [h1]
  have h2 : HT.sIx (us.length + 2) 0 (some (-2)) = us.length := by
   show (if (-2 : Int) < 0 then ((-2 : Int) + ((us.length + 2 : Nat) : Int)).toNat else min (-2 : Int).toNat (us.length + 2)) = _
   rw [if_pos Z0]
   omega
  have h3 : HT.sIx (us.length + 2) (us.length + 2) (some (-1)) = us.length + 1 := by
   show (if (-1 : Int) < 0 then ((-1 : Int) + ((us.length + 2 : Nat) : Int)).toNat else min (-1 : Int).toNat (us.length + 2)) = _
   rw [if_pos Z0]
   omega
  rw [h2, h3, List.drop_left, show us.length + 1 - us.length = 1 from by omega]
  rfl
theorem zc {so : Nat} (h : so <= 5) : inV (V.str (fG so)) dal = decide (so = 2 \/ so = 3 \/ so = 4) := by
 rcases six h with rfl | rfl | rfl | rfl | rfl | rfl
 all_goals decide +kernel
def qD : Sp := fun vs H Q _ => ∃ ys : List Str, vs = [.str (dotted ys)] /\ cO ys /\ ∀ p H', H p = none -> au H H' -> H' p = some (.lst ((dM ys).map V.str)) -> Q (.ref p) H'
def zm (C : Nat -> Addr) : Sp := fun vs H Q _ => ∃ (a t : Addr) (r : cB), vs = [.ref a] /\ dJ C H a t r /\ GoodR r /\ ∀ b H', H b = none -> au H H' -> H' b = some (.lst ((eG r).map V.str)) -> Q (.ref b) H'
def yZ (C : Nat -> Addr) : Sp := fun vs H Q E => ∃ (h l : Addr) (ps : List bA) (z : Str), vs = [.ref h, .str z] /\ dF C H h l ps /\ bO ps /\ z.length <= 1000 /\
 (∀ (i : Nat) p, ps[i]? = some p -> dotted p.ad = z -> ∀ b H' zs, H b = none -> au H H' -> zs.Perm (adS ps) -> sortedS zs = true -> H' b = some (.lst ((zs.filter fun y => decide (y ∈ linked p)).map V.str)) -> Q (.ref b) H') /\ (z ∉ adS ps -> ∀ x H', au H H' -> vY C H' x z -> E (.ref x) none H')
def rQ : Sp := fun vs H Q _ => ∃ (H0 : Hp) (la R : Addr) (as : List (List Str)) (L : Nat -> Addr) (rs : Nat -> List Q4) (i : Nat) (a : List Str), vs = [.str (dotted a), .ref la, .ref R] /\ H la = some (.lst ((as.map dotted).map V.str)) /\ bL as /\ DictAt H0 H R as as.length L rs /\ du as rs /\ as[i]? = some a /\
 ∀ b H' zs, H b = none -> au H H' -> zs.Perm ((as.map dotted).filter fun y => decide (y ∈ kO a (rs i))) -> sortedS zs = true -> H' b = some (.lst (zs.map V.str)) -> Q (.ref b) H'
theorem qN : ∀ {xs zs : List Str}, xs.Nodup -> (∀ x ∈ xs, x ∈ zs) -> xs.length <= zs.length
 | [], _, _, _ => zero_le _
 | x :: xs, zs, h, hs => by
  have hx : x ∈ zs := hs x Z2
  have h2 : x ∉ xs := (nodup_cons.mp h).1
  have := qN (zs := zs.erase x) (nodup_cons.mp h).2 fun y hy => (List.mem_erase_of_ne (fun e : y = x => h2 (e ▸ hy))).mpr (hs y (mem_cons_of_mem _ hy))
  rw [List.length_erase_of_mem hx] at this
  have h3 := List.length_pos_of_mem hx
  rw [length_cons]
  omega
structure Gr (zs : List Str) (nb : Str -> List Str) : Prop where
 hi : zs.length <= 12
 nd : zs.Nodup
 cl : ∀ z ∈ zs, ∀ y ∈ nb z, y ∈ zs
 nn : ∀ z ∈ zs, (nb z).Nodup
theorem Gr.len {zs : List Str} {nb : Str -> List Str} (g : Gr zs nb) {z : Str} (h : z ∈ zs) : (nb z).length <= 12 := le_trans (qN (g.nn z h) (g.cl z h)) g.hi
inductive Rch (nb : Str -> List Str) (a : Str) : Str -> Prop
 | one {y : Str} : y ∈ nb a -> Rch nb a y
 | more {x y : Str} : Rch nb a x -> y ∈ nb x -> Rch nb a y
theorem Rch.mem {zs : List Str} {nb : Str -> List Str} (g : Gr zs nb) {a y : Str} (ha : a ∈ zs) (h : Rch nb a y) : y ∈ zs := by
 induction h with
 | one h => exact g.cl a ha _ h
 | more _ h ih => exact g.cl _ ih _ h
theorem Rch.in {nb : Str -> List Str} {a y : Str} {fs : List Str} (h1 : ∀ y ∈ nb a, y ∈ fs) (h2 : ∀ x ∈ fs, ∀ y ∈ nb x, y ∈ fs) (h : Rch nb a y) : y ∈ fs := by
 induction h with
 | one h => exact h1 _ h
 | more _ h ih => exact h2 _ ih _ h
theorem Rch.of_eq {zs : List Str} {nb nc : Str -> List Str} (g : Gr zs nb) {a y : Str} (ha : a ∈ zs) (e : ∀ z ∈ zs, nb z = nc z) (h : Rch nb a y) : Rch nc a y := by
 induction h with
 | one h => exact .one (e a ha ▸ h)
 | more h1 h ih => exact .more ih (e _ (h1.mem g ha) ▸ h)
def dw (H : Hp) (R : Addr) (zs : List Str) (nb : Str -> List Str) : Prop := ∃ kvs : List (Key × V), H R = some (.dK kvs) /\ kvs.map (·.1) = zs.map Sum.inr /\ ∀ z ∈ zs, ∃ l, dR kvs (.inr z) = some (.ref l) /\ H l = some (.lst ((nb z).map V.str))
theorem dw.same {H H' : Hp} {R : Addr} {zs : List Str} {nb : Str -> List Str} (h : dw H R zs nb) (s : au H H') : dw H' R zs nb := by
 obtain ⟨kvs, h1, h2, h3⟩ := h
 exact ⟨kvs, s _ _ h1, h2, fun z hz => by obtain ⟨l, e1, e2⟩ := h3 z hz; exact ⟨l, e1, s _ _ e2⟩⟩
theorem dw.get {H : Hp} {R : Addr} {zs : List Str} {nb : Str -> List Str} {z : Str} (h : dw H R zs nb) (hz : z ∈ zs) : ∃ l, jD H R (V.str z) (some (.ref l)) /\ H l = some (.lst ((nb z).map V.str)) := by
 obtain ⟨kvs, h1, h2, h3⟩ := h
 obtain ⟨l, e1, e2⟩ := h3 z hz
 have := jD.k (k := .inr z) h1
 rw [e1] at this
 exact ⟨l, this, e2⟩
theorem dw.gets {H : Hp} {R : Addr} {zs : List Str} {nb : Str -> List Str} {z : Str} (h : dw H R zs nb) (hz : z ∈ zs) : ∃ l, (∀ H', au H H' -> jD H' R (V.str z) (some (.ref l))) /\ H l = some (.lst ((nb z).map V.str)) := by
 obtain ⟨kvs, h1, h2, h3⟩ := h
 obtain ⟨l, e1, e2⟩ := h3 z hz
 refine ⟨l, fun H' s => ?_, e2⟩
 have := jD.k (k := .inr z) (s _ _ h1)
 rw [e1] at this
 exact this
theorem has_key {kvs : List (Key × V)} {fs : List Str} (h : kvs.map (·.1) = fs.map Sum.inr) (x : Str) : (dR kvs (.inr x)).isSome = decide (x ∈ fs) := by
 rw [<- ir]
 by_cases hx : x ∈ fs
 ·rw [decide_eq_true hx, List.any_eq_true]
  have : (Sum.inr x : Key) ∈ kvs.map (·.1) := by rw [h]; exact mem_map.mpr ⟨x, hx, rfl⟩
  obtain ⟨kv, hkv, e⟩ := mem_map.mp this
  exact ⟨kv, hkv, decide_eq_true e⟩
 ·rw [decide_eq_false hx, any_eq_false]
  intro kv hkv k
  have : kv.1 ∈ kvs.map (·.1) := mem_map.mpr ⟨kv, hkv, rfl⟩
  rw [of_decide_eq_true k, h] at this
  obtain ⟨y, hy, e⟩ := mem_map.mp this
  exact hx (Sum.inr.inj e ▸ hy)
theorem Ge {kvs : List (Key × V)} {fs : List Str} (h : kvs.map (·.1) = fs.map Sum.inr) {x : Str} (hx : x ∉ fs) (v : V) : putK kvs (.inr x) v = kvs ++ [(.inr x, v)] := by
 have := has_key h x
 rw [decide_eq_false hx, <- ir] at this
 unfold putK
 rw [if_neg (by rw [this]; decide)]
theorem wI {kvs : List (Key × V)} {fs : List Str} (h : kvs.map (·.1) = fs.map Sum.inr) {x : Str} (hx : x ∉ fs) (v : V) : (putK kvs (.inr x) v).map (·.1) = (fs ++ [x]).map Sum.inr := by
 rw [Ge h hx, map_append, map_append, h]
 rfl
theorem oM {kvs : List (Key × V)} {fs : List Str} (h : kvs.map (·.1) = fs.map Sum.inr) : kvs.length = fs.length := by have := congrArg List.length h; simpa using this
theorem dw.more {H : Hp} {R l : Addr} {zs : List Str} {nb : Str -> List Str} {z : Str} (h : dw H R zs nb) (hz : z ∉ zs) (hl : H l = some (.lst ((nb z).map V.str))) :
  ∃ kvs, H R = some (.dK kvs) /\ kvs.length = zs.length /\ dw (upd H R (.dK (putK kvs (.inr z) (.ref l)))) R (zs ++ [z]) nb := by
 obtain ⟨kvs, h1, h2, h3⟩ := h
 have off : ∀ b xs, H b = some (.lst xs) -> (upd H R (.dK (putK kvs (.inr z) (.ref l)))) b = some (.lst xs) := fun b xs e => by rw [aF (kI e h1 Z7)]; exact e
 refine ⟨kvs, h1, oM h2, _, ak, wI h2 hz _, fun y hy => ?_⟩
 by_cases e : y = z
 ·subst e
  exact ⟨l, by rw [lA, if_pos rfl], off _ _ hl⟩
 ·have hy2 : y ∈ zs := by
   rcases mem_append.mp hy with k | k
   ·exact k
   ·exact absurd (mem_singleton.mp k) e
  obtain ⟨l2, e1, e2⟩ := h3 y hy2
  exact ⟨l2, by rw [lA, if_neg (fun k => e (Sum.inr.inj k))]; exact e1, off _ _ e2⟩
theorem dw.but {H : Hp} {R : Addr} {zs : List Str} {nb nc : Str -> List Str} (h : dw H R zs nb) (e : ∀ z ∈ zs, nb z = nc z) : dw H R zs nc := by
 obtain ⟨kvs, h1, h2, h3⟩ := h
 exact ⟨kvs, h1, h2, fun z hz => by rw [<- e z hz]; exact h3 z hz⟩
theorem zp {H H' : Hp} {R : Addr} {u : HO} (h : Rd H R u) (s : au H H') : Rd H' R u := by
 rcases h with e | ⟨o, e⟩
 ·exact .inl (s _ _ e)
 ·exact .inr ⟨o, s _ _ e⟩
def LkG (H : Hp) (R : Addr) (zs : List Str) (nb : Str -> List Str) : Prop := ∃ kvs : List (Key × V), Rd H R (.dK kvs) /\ kvs.map (·.1) = zs.map Sum.inr /\ ∀ z ∈ zs, ∃ l, dR kvs (.inr z) = some (.ref l) /\ H l = some (.lst ((nb z).map V.str))
theorem LkG.same {H H' : Hp} {R : Addr} {zs : List Str} {nb : Str -> List Str} (h : LkG H R zs nb) (s : au H H') : LkG H' R zs nb := by
 obtain ⟨kvs, h1, h2, h3⟩ := h
 exact ⟨kvs, zp h1 s, h2, fun z hz => by obtain ⟨l, e1, e2⟩ := h3 z hz; exact ⟨l, e1, s _ _ e2⟩⟩
theorem LkG.get {H : Hp} {R : Addr} {zs : List Str} {nb : Str -> List Str} {z : Str} (h : LkG H R zs nb) (hz : z ∈ zs) : ∃ l, jD H R (V.str z) (some (.ref l)) /\ H l = some (.lst ((nb z).map V.str)) := by
 obtain ⟨kvs, h1, h2, h3⟩ := h
 obtain ⟨l, e1, e2⟩ := h3 z hz
 have : jD H R (V.str z) (dR kvs (.inr z)) := .inl ⟨kvs, .inr z, h1, rfl, rfl⟩
 rw [e1] at this
 exact ⟨l, this, e2⟩
theorem LkG.gets {H : Hp} {R : Addr} {zs : List Str} {nb : Str -> List Str} {z : Str} (h : LkG H R zs nb) (hz : z ∈ zs) : ∃ l, (∀ H', au H H' -> jD H' R (V.str z) (some (.ref l))) /\ H l = some (.lst ((nb z).map V.str)) := by
 obtain ⟨kvs, h1, h2, h3⟩ := h
 obtain ⟨l, e1, e2⟩ := h3 z hz
 refine ⟨l, fun H' s => ?_, e2⟩
 have : jD H' R (V.str z) (dR kvs (.inr z)) := .inl ⟨kvs, .inr z, zp h1 s, rfl, rfl⟩
 rw [e1] at this
 exact this
def Ld (H : Hp) (R A F : Addr) (a : Str) (zs : List Str) (nb : Str -> List Str) (m : Nat) (σ : L2.St) (H' : Hp) : Prop := ∃ (as fs : List Str) (kvs : List (Key × V)) (v : Option V), σ = [some (.ref R), some (.str a), some (.ref A), some (.ref F), v] /\ au H H' /\
 H' A = some (.lst (as.map V.str)) /\ H' F = some (.dK kvs) /\ kvs.map (·.1) = fs.map Sum.inr /\ fs.Nodup /\ (∀ x ∈ as, Rch nb a x) /\ (∀ x ∈ fs, Rch nb a x) /\ (∀ y ∈ nb a, y ∈ as \/ y ∈ fs) /\ (∀ x ∈ fs, ∀ y ∈ nb x, y ∈ as \/ y ∈ fs) /\ as.length <= 12 * (1 + fs.length) /\ m = 13 * (zs.length - fs.length) + as.length
def ut : Sp := fun vs H Q _ => ∃ (R : Addr) (a : Str) (zs : List Str) (nb : Str -> List Str), vs = [.ref R, .str a] /\ LkG H R zs nb /\ Gr zs nb /\ a ∈ zs /\ ∀ l H' ys, H l = none -> au H H' -> ys.Nodup -> sortedS ys = true -> (∀ y, y ∈ ys ↔ Rch nb a y) -> H' l = some (.lst (ys.map V.str)) -> Q (.ref l) H'
def jq (ps : List bA) (zs : List Str) (z : Str) : List Str := match ps.find? fun p => decide (dotted p.ad = z) with | some p => zs.filter fun y => decide (y ∈ linked p) | none => []
theorem uU {ps : List bA} (nd : (adS ps).Nodup) {i : Nat} {p : bA} (h : ps[i]? = some p) (zs : List Str) : jq ps zs (dotted p.ad) = zs.filter fun y => decide (y ∈ linked p) := by
 have : ps.find? (fun q => decide (dotted q.ad = dotted p.ad)) = some p := by
  cases e : ps.find? (fun q => decide (dotted q.ad = dotted p.ad)) with
  | none => exact absurd (decide_eq_true rfl) (List.find?_eq_none.mp e p (mem_of_getElem? h))
  | some q =>
   have h1 : dotted q.ad = dotted p.ad := by simpa using List.find?_some e
   obtain ⟨j, hj, ej⟩ := getElem_of_mem (List.mem_of_find?_eq_some e)
   have e1 : (adS ps)[i]? = some (dotted p.ad) := by unfold adS; rw [getElem?_map, h]; rfl
   have e2 : (adS ps)[j]? = some (dotted q.ad) := by unfold adS; rw [getElem?_map, getElem?_eq_getElem hj, ej]; rfl
   have : i = j := (getElem?_inj (List.getElem?_eq_some_iff.mp e1).1 nd).mp (by rw [e1, e2, h1])
   subst this
   rw [getElem?_eq_getElem hj, ej] at h
   exact h
 unfold jq
 rw [this]
theorem RG {ps : List bA} (g : bO ps) {zs : List Str} (h : zs.Perm (adS ps)) : Gr zs (jq ps zs) := by
 have hn : zs.Nodup := h.nodup_iff.mpr g.nd
 refine ⟨by rw [h.length_eq]; unfold adS; rw [length_map]; exact g.hi, hn, fun z _ y hy => ?_, fun z _ => ?_⟩
 ·unfold jq at hy
  split at hy
  ·exact (mem_filter.mp hy).1
  ·cases hy
 ·unfold jq
  split
  ·exact hn.filter _
  ·exact nodup_nil
def G3 (C : Nat -> Addr) : Sp := fun vs H Q _ => ∃ (h l : Addr) (ps : List bA), vs = [.ref h] /\ dF C H h l ps /\ bO ps /\ ∀ R H' zs, zs.Perm (adS ps) -> sortedS zs = true -> H R = none -> au H H' -> dw H' R zs (jq ps zs) -> Q (.ref R) H'
def uJ (as : List (List Str)) (rs : Nat -> List Q4) (nb : Str -> List Str) : Prop := ∀ (i : Nat) a, as[i]? = some a -> (nb (dotted a)).Perm ((as.map dotted).filter fun y => decide (y ∈ kO a (rs i))) /\ sortedS (nb (dotted a)) = true
theorem uJ.gr {as : List (List Str)} {rs : Nat -> List Q4} {nb : Str -> List Str} (g : bL as) (h : uJ as rs nb) : Gr (as.map dotted) nb := by
 have at_ : ∀ z ∈ as.map dotted, ∃ (i : Nat) (a : List Str), as[i]? = some a /\ z = dotted a := fun z hz => by
  obtain ⟨a, ha, rfl⟩ := mem_map.mp hz
  obtain ⟨i, hi, e⟩ := getElem_of_mem ha
  exact ⟨i, a, by rw [getElem?_eq_getElem hi, e], rfl⟩
 refine ⟨by rw [length_map]; exact g.hi, g.nd, fun z hz y hy => ?_, fun z hz => ?_⟩
 ·obtain ⟨i, a, ha, rfl⟩ := at_ z hz
  exact (mem_filter.mp ((h i a ha).1.mem_iff.mp hy)).1
 ·obtain ⟨i, a, ha, rfl⟩ := at_ z hz
  exact (h i a ha).1.nodup_iff.mpr (g.nd.filter _)
theorem Ca {as : List (List Str)} {rs : Nat -> List Q4} {nb : Str -> List Str} {ps : List bA} (g : bL as) (h : uJ as rs nb) (hk : bO ps) (ead : adS ps = as.map dotted) (hof : ∀ (i : Nat) p, ps[i]? = some p -> as[i]? = some p.ad /\ mW (rs i) p.rs) {zs : List Str} (h1 : zs.Perm (adS ps)) (h2 : sortedS zs = true) : ∀ z ∈ as.map dotted, jq ps zs z = nb z := fun z hz => by
 obtain ⟨a, ha, rfl⟩ := mem_map.mp hz
 obtain ⟨i, hi, e⟩ := getElem_of_mem ha
 have ei : as[i]? = some a := by rw [getElem?_eq_getElem hi, e]
 have hl : ps.length = as.length := by have := congrArg List.length ead; unfold adS at this; simpa using this
 have ep : ps[i]? = some (ps[i]'Z1) := getElem?_eq_getElem Z1
 obtain ⟨e1, e2⟩ := hof i _ ep
 rw [ei] at e1
 have e3 : a = (ps[i]'Z1).ad := Option.some.inj e1
 obtain ⟨n1, n2⟩ := h i a ei
 rw [e3] at n1 n2 ⊢
 rw [uU hk.nd ep]
 refine ug (as := as.map dotted) (by rw [<- ead]; exact h1) h2 n1 n2 fun y hy => ?_
 obtain ⟨b, hb, rfl⟩ := mem_map.mp hy
 exact decide_eq_decide.mpr (yp e2 (tY (g.ok b hb)))
def vy (zs : List Str) (nb bh : Str -> List Str) : Prop := ∀ z ∈ zs, (bh z).Nodup /\ ∀ y, y ∈ bh z ↔ Rch nb z y
def xN : Sp := fun vs H Q _ => ∃ (H0 : Hp) (la R : Addr) (as : List (List Str)) (L : Nat -> Addr) (rs : Nat -> List Q4), vs = [.ref la, .ref R] /\ H la = some (.lst ((as.map dotted).map V.str)) /\ bL as /\ DictAt H0 H R as as.length L rs /\ du as rs /\
 ∀ B H' nb bh, H B = none -> au H H' -> uJ as rs nb -> dw H' B (as.map dotted) bh -> vy (as.map dotted) nb bh -> Q (.ref B) H'
def Ej (K : Frag) : Sp := fun vs H Q _ => ∃ (S lw : Addr) (ns : List Int) (ws : List Str), vs = [.ref S, .ref lw] /\ SqL K H S (ns.map V.int) /\ H lw = some (.lst (ws.map V.str)) /\ ws.length = 8 /\ (∀ w ∈ ws, cQ w) /\
 ∀ (p la R : Addr) (as : List (List Str)) L rs H1 H', H' p = some (.tup [.ref la, .ref R]) -> au H H' -> H' la = some (.lst ((as.map dotted).map V.str)) -> as ≠ [] -> bL as -> DictAt H1 H' R as as.length L rs -> du as rs -> Q (.ref p) H'
def Mq (H : Hp) (la R B N : Addr) (v4 : Option V) (a : Str) (zs : List Str) (nb : Str -> List Str) (m : Nat) (σ : L2.St) (H' : Hp) : Prop := ∃ (F : Addr) (fs : List Str) (k : Nat), σ = [some (.ref la), some (.ref R), some (.ref B), some (.ref N), v4, some (.ref F), some (.int (k : Int))] /\ au H H' /\ H F = none /\
 H' F = some (.lst (fs.map V.str)) /\ fs.Nodup /\ (∀ x ∈ fs, Rch nb a x) /\ (∀ y ∈ nb a, y ∈ fs) /\ k <= fs.length /\ (∀ (j : Nat) x, j < k -> fs[j]? = some x -> ∀ y ∈ nb x, y ∈ fs) /\ m = 13 - k
def without (H : Hp) (B : Addr) : Hp := fun b => if b = B then none else H b
theorem qW (H : Hp) (B : Addr) : without H B B = none := by unfold without; rw [if_pos rfl]
theorem fJ {H : Hp} {B b : Addr} (h : b ≠ B) : without H B b = H b := by unfold without; rw [if_neg h]
theorem ou (H : Hp) (B : Addr) : au (without H B) H := fun b o e => by
 unfold without at e
 split at e
 ·cases e
 ·exact e
theorem au.without {H H' : Hp} {B : Addr} (s : au H H') (h : H B = none) : au H (Mine.without H' B) := fun b o e => by
 rw [fJ (fun z => by rw [z, h] at e; cases e)]
 exact s b o e
theorem dw.without {H : Hp} {R B : Addr} {zs : List Str} {nb : Str -> List Str} {kvs : List (Key × V)} (h : dw H R zs nb) (hB : H B = some (.dK kvs)) (hne : R ≠ B) : dw (Mine.without H B) R zs nb := by
 obtain ⟨kvs2, h1, h2, h3⟩ := h
 exact ⟨kvs2, by rw [fJ hne]; exact h1, h2, fun z hz => by obtain ⟨l, e1, e2⟩ := h3 z hz; exact ⟨l, e1, by rw [fJ (kI e2 hB Z7)]; exact e2⟩⟩
theorem Ax {x : Str} {l u : Option Int} {n : Nat} (h : n ∈ (Txt.slice x l u).cps.toList) : n ∈ x.cps.toList := by
 unfold Txt.slice at h
 split at h
 ·exact h
 ·simp only [List.mem_filterMap] at h
  obtain ⟨i, _, e⟩ := h
  rw [<- Array.getElem?_toList] at e
  exact mem_of_getElem? e
theorem xT {x : Str} (h : x.length <= 8) : (Txt.slice x none (some 7)).length <= 7 := by
 by_cases k : 7 <= x.length
 ·have e := eq_of_beq (slice_closes_to (x := x) (j := 7) ⟨Z0, by rw [length_toList]; exact Int.ofNat_le.mpr k⟩)
  rw [e]
  show (((x.cps.toList.drop (0 : Int).toNat).take (7 - 0 : Int).toNat).toArray).size <= 7
  rw [size_toArray]
  exact length_take_le _ _
 ·exact le_trans (Txt.slice_le _ _ _) Z1
def bT (p : Str) : List (List Str) := (List.range 12).map fun i => [p ++ (⟨#[97 + i]⟩ : Str)]
theorem wC (p : Str) : (bT p).length = 12 := by unfold bT; rw [length_map, length_range]
theorem nM (p : Str) {i : Nat} (h : i < 12) : (bT p)[i]? = some [p ++ (⟨#[97 + i]⟩ : Str)] := by unfold bT; rw [getElem?_map, List.getElem?_range h]; rfl
theorem rC (p : Str) : (bT p).map dotted = (List.range 12).map fun i => p ++ (⟨#[97 + i]⟩ : Str) := by
 unfold bT
 rw [map_map]
 exact List.map_congr_left fun i _ => il _
theorem vQ {p : Str} (h1 : ∀ n ∈ p.cps.toList, 97 <= n /\ n <= 122) (h2 : p.length <= 7) {i : Nat} (h : i < 12) : cQ (p ++ (⟨#[97 + i]⟩ : Str)) := by
 have hl : ((⟨#[97 + i]⟩ : Str)).length = 1 := rfl
 refine ⟨by rw [uY, hl]; omega, by rw [uY, hl]; omega, fun n hn => ?_⟩
 rw [cA] at hn
 rcases mem_append.mp hn with k | k
 ·exact h1 n k
 ·have : n = 97 + i := by simpa using k
  omega
theorem Bd {p : Str} (h1 : ∀ n ∈ p.cps.toList, 97 <= n /\ n <= 122) (h2 : p.length <= 7) : bL (bT p) := by
 refine ⟨by rw [wC]; decide, fun a ha => ?_, ?_, fun a ha => ?_⟩
 ·obtain ⟨i, hi, rfl⟩ := mem_map.mp ha
  exact zA (vQ h1 h2 (mem_range.mp hi))
 ·rw [rC]
  refine List.Pairwise.map _ (fun i j hij e => hij ?_) List.nodup_range
  have := congrArg (fun z : Str => z.cps.toList) e
  simp only [cA] at this
  have := List.append_cancel_left this
  simpa using this
 ·obtain ⟨i, hi, rfl⟩ := mem_map.mp ha
  exact .inl rfl
theorem yd : (("abcdefghijkl" : Str)).cps.toList = (List.range 12).map fun i => 97 + i := by decide +kernel
theorem Bm (p : Str) : (("abcdefghijkl" : Str)).cps.toList.map (fun c => V.str (p ++ (⟨#[c]⟩ : Str))) = ((bT p).map dotted).map V.str := by
 rw [yd, rC, map_map, map_map]
 rfl
theorem Fw {p : Str} (h1 : ∀ n ∈ p.cps.toList, 97 <= n /\ n <= 122) (h2 : p.length <= 7) (z w : Str) : z ++ "." ++ w ∉ (bT p).map dotted := fun hm => by
 rw [rC] at hm
 obtain ⟨i, hi, e⟩ := mem_map.mp hm
 refine (vQ h1 h2 (mem_range.mp hi)).nodot ?_
 rw [e, cA, cA]
 exact mem_append_left _ (mem_append_right _ Z4)
theorem xR {kvs : List (Key × V)} {k : Key} {v : V} (h : (dR kvs k).isSome = true) : (putK kvs k v).length = kvs.length := by
 unfold putK
 rw [if_pos (by rw [ir]; exact h), length_map]
theorem DictAt.put {H0 H : Hp} {R b : Addr} {as : List (List Str)} {n m i : Nat} {L : Nat -> Addr} {rs : Nat -> List Q4} {a : List Str} {ds : List Q4} (nd : (as.map dotted).Nodup) (h : DictAt H0 H R as n L rs) (hb0 : H0 b = none) (hbL : ∀ j, j < n -> L j ≠ b) (hb : gB H b ds) (ha : as[i]? = some a) (hm : (i = n /\ m = n + 1) \/ (i < n /\ m = n)) :
  ∀ kvs, H R = some (.dK kvs) -> kvs.length <= n /\ DictAt H0 (upd H R (.dK (putK kvs (.inr (dotted a)) (.ref b)))) R as m (fun j => if j = i then b else L j) (fun j => if j = i then ds else rs j) := by
 intro kvs hk
 obtain ⟨r0, l0, ⟨kvs', hk', hl, hv⟩, ts, ap⟩ := h
 rw [hk] at hk'
 cases hk'
 have hT : ∀ ys, H R ≠ some (.tup ys) := fun ys => by rw [hk]; intro z; cases z
 refine ⟨hl, r0, fun j hj => ?_, ⟨_, ak, ?_, fun j c hj hc => ?_⟩, fun j hj => ?_, fun j k hj hk2 e => ?_⟩
 ·by_cases k : j = i
  ·rw [if_pos k]; exact hb0
  ·rw [if_neg k]; exact l0 j Z1
 ·rcases hm with ⟨_, rfl⟩ | ⟨hi, rfl⟩
  ·exact le_trans (gh _ _ _) (Nat.succ_le_succ hl)
  ·rw [xR (by rw [hv i a hi ha]; rfl)]; exact hl
 ·rw [lA]
  by_cases k : j = i
  ·subst k
   rw [ha] at hc
   cases hc
   rw [if_pos rfl, if_pos rfl]
  ·rw [if_neg k, if_neg (fun z => zV nd hc ha k (Sum.inr.inj z))]
   exact hv j c Z1 hc
 ·by_cases k : j = i
  ·simp only [if_pos k]
   obtain ⟨xs, hx, hn, ht⟩ := hb
   have hbR : b ≠ R := fun z => by rw [z, hk] at hx; cases hx
   exact gB.off (H := H) ⟨xs, hx, hn, ht⟩ hbR hT
  ·simp only [if_neg k]
   obtain ⟨xs, hx, hn, ht⟩ := ts j Z1
   have hR : L j ≠ R := fun z => by rw [z, hk] at hx; cases hx
   exact gB.off (H := H) ⟨xs, hx, hn, ht⟩ hR hT
 ·by_cases u : j = i
  ·by_cases v : k = i
   ·omega
   ·simp only [if_pos u, if_neg v] at e
    exact absurd e.symm (hbL k Z1)
  ·by_cases v : k = i
   ·simp only [if_neg u, if_pos v] at e
    exact absurd e (hbL j Z1)
   ·simp only [if_neg u, if_neg v] at e
    exact ap j k Z1 Z1 e
theorem du.set {as : List (List Str)} {rs : Nat -> List Q4} {i : Nat} {a : List Str} {ds : List Q4} (h : du as rs) (hi : as[i]? = some a) (hl : ds.length <= 12) (g : ∀ d ∈ ds, G4 d.so d.nm d.ad d.wd) (hc : ∀ d ∈ ds, d.so < 5 -> dotted a ++ "." ++ d.nm ∉ as.map dotted) : du as (fun j => if j = i then ds else rs j) := by
 refine ⟨fun j hj => ?_, fun j hj e he => ?_, fun j b hb e he h5 => ?_⟩
 ·by_cases k : j = i
  ·simp only [if_pos k]; exact hl
  ·simp only [if_neg k]; exact h.hi j hj
 ·by_cases k : j = i
  ·simp only [if_pos k] at he; exact g e he
  ·simp only [if_neg k] at he; exact h.g4 j hj e he
 ·by_cases k : j = i
  ·subst k
   rw [hi] at hb
   cases hb
   simp only [if_true] at he
   exact hc e he h5
  ·simp only [if_neg k] at he
   exact h.cl j b hb e he h5
theorem step_at (c : Int) : ∃ st : Int, 0 <= st /\ atI [V.int 1, V.int 5, V.int 7, V.int 11] (pick c 0 4) = some (V.int st) := by
 have h1 := fc c 0 (m := 4) Z0
 have h2 := gb c 0 (m := 4) Z0
 generalize pick c 0 4 = k at h1 h2
 rcases (by omega : k = 0 \/ k = 1 \/ k = 2 \/ k = 3) with rfl | rfl | rfl | rfl
 ·exact ⟨1, Z0, bf (j := 0) rfl⟩
 ·exact ⟨5, Z0, bf (j := 1) rfl⟩
 ·exact ⟨7, Z0, bf (j := 2) rfl⟩
 ·exact ⟨11, Z0, bf (j := 3) rfl⟩
theorem DP (c k : Int) : ∃ so, (so = 2 \/ so = 3) /\ atI [V.str "draw", V.str "late"] (pick c k 2) = some (V.str (fG so)) := by
 have h1 := fc c k (m := 2) Z0
 have h2 := gb c k (m := 2) Z0
 generalize pick c k 2 = k at h1 h2
 rcases (by omega : k = 0 \/ k = 1) with rfl | rfl
 ·exact ⟨2, .inl rfl, bf (j := 0) rfl⟩
 ·exact ⟨3, .inr rfl, bf (j := 1) rfl⟩
theorem Rch.tr {nb : Str -> List Str} {a b c : Str} (h1 : Rch nb a b) (h2 : Rch nb b c) : Rch nb a c := by
 induction h2 with
 | one h => exact .more h1 h
 | more _ h ih => exact .more ih h
def cut (zs : List Str) (nb : Str -> List Str) : Str -> List Str := fun z => if z ∈ zs then nb z else []
theorem pK {zs : List Str} {nb : Str -> List Str} {z : Str} (h : z ∈ zs) : nb z = cut zs nb z := (if_pos h).symm
theorem pq {zs ys : List Str} {nb nc : Str -> List Str} (e : ∀ z ∈ zs, nb z = nc z) (p : zs.Perm ys) : cut zs nb = cut ys nc := funext fun z => by
 unfold cut
 by_cases h : z ∈ zs
 ·rw [if_pos h, if_pos (p.mem_iff.mp h), e z h]
 ·rw [if_neg h, if_neg fun k => h (p.mem_iff.mpr k)]
theorem Gr.cut {zs : List Str} {nb : Str -> List Str} (g : Gr zs nb) : Gr zs (Mine.cut zs nb) :=
 ⟨g.hi, g.nd, fun z hz y hy => g.cl z hz y (by rw [pK (nb := nb) hz]; exact hy), fun z hz => by rw [<- pK hz]; exact g.nn z hz⟩
theorem Gr.kgr {zs : List Str} {nb : Str -> List Str} (g : Gr zs nb) : Kgr zs nb (Rch nb) := ⟨g.nd, g.cl, fun _ _ h => .one h, fun _ _ _ h1 h2 => h1.tr h2⟩
theorem Gr.perm {zs ys : List Str} {nb : Str -> List Str} (g : Gr zs nb) (p : zs.Perm ys) : Gr ys nb :=
 ⟨by rw [<- p.length_eq]; exact g.hi, p.nodup_iff.mp g.nd, fun z hz y hy => p.mem_iff.mp (g.cl z (p.mem_iff.mpr hz) y hy), fun z hz => g.nn z (p.mem_iff.mpr hz)⟩
theorem vy.cut {zs ys : List Str} {nb bh : Str -> List Str} (g : Gr zs nb) (h : vy zs nb bh) (p : zs.Perm ys) : vy ys (Mine.cut ys nb) bh := fun z hz => by
 have hz' := p.mem_iff.mpr hz
 obtain ⟨h1, h2⟩ := h z hz'
 have e : Mine.cut ys nb = Mine.cut zs nb := (pq (fun _ _ => rfl) p).symm
 refine ⟨h1, fun y => (h2 y).trans ⟨fun k => ?_, fun k => ?_⟩⟩
 ·rw [e]; exact k.of_eq g hz' fun u hu => pK hu
 ·rw [e] at k; exact k.of_eq g.cut hz' fun u hu => (pK hu).symm
noncomputable abbrev kn (zs : List Str) (nb : Str -> List Str) (z : Str) : List Str := knot zs (Rch nb) z
noncomputable abbrev kss (zs : List Str) (nb : Str -> List Str) : List (List Str) := dH zs (Rch nb)
noncomputable abbrev kOr (zs : List Str) (nb : Str -> List Str) : List (List Str) := T3 zs nb (Rch nb)
theorem Hy {zs : List Str} {nb : Str -> List Str} (g : Gr zs nb) (z : Str) : (kn zs nb z).length <= 12 := le_trans (length_filter_le _ _) g.hi
theorem vg {zs : List Str} {nb : Str -> List Str} (g : Gr zs nb) : (kss zs nb).length <= 12 := by
 unfold kss dH
 rw [length_map]
 exact le_trans (length_filter_le _ _) g.hi
theorem nD {zs : List Str} {nb : Str -> List Str} (g : Gr zs nb) {k : List Str} (h : k ∈ kss zs nb) : k.length <= 12 /\ ∀ y ∈ k, y ∈ zs := by
 obtain ⟨z, hz, rfl⟩ := (vm g.kgr).mp h
 exact ⟨Hy g z, fun y hy => (jj.mp hy).1⟩
theorem o5 {n : Nat} : ∀ {l : List (List Str)}, (∀ k ∈ l, k.length <= n) -> l.flatten.length <= n * l.length
 | [], _ => zero_le _
 | k :: l, h => by
  rw [List.flatten_cons, length_append, length_cons, Nat.mul_succ]
  have h1 := h k Z2
  have h2 := o5 (l := l) fun j hj => h j (mem_cons_of_mem _ hj)
  omega
def LkF (H : Hp) (R : Addr) (zs : List Str) (nb : Str -> List Str) : Prop := ∃ (o : Obj) (kvs : List (Key × V)), H R = some (.frz o (.dK kvs)) /\ kvs.map (·.1) = zs.map Sum.inr /\ ∀ z ∈ zs, ∃ l, dR kvs (.inr z) = some (.ref l) /\ H l = some (.lst ((nb z).map V.str))
theorem LkF.g {H : Hp} {R : Addr} {zs : List Str} {nb : Str -> List Str} (h : LkF H R zs nb) : LkG H R zs nb := by
 obtain ⟨o, kvs, h1, h2, h3⟩ := h
 exact ⟨kvs, .inr ⟨o, h1⟩, h2, h3⟩
theorem LkF.same {H H' : Hp} {R : Addr} {zs : List Str} {nb : Str -> List Str} (h : LkF H R zs nb) (s : au H H') : LkF H' R zs nb := by
 obtain ⟨o, kvs, h1, h2, h3⟩ := h
 exact ⟨o, kvs, s _ _ h1, h2, fun z hz => by obtain ⟨l, e1, e2⟩ := h3 z hz; exact ⟨l, e1, s _ _ e2⟩⟩
theorem pN {kvs : List (Key × V)} {zs : List Str} (h : kvs.map (·.1) = zs.map Sum.inr) : (kvs.map fun kv => kV kv.1) = zs.map V.str := by
 have := congrArg (List.map kV) h
 rw [map_map, map_map] at this
 exact this
theorem Js {kvs : List (Key × V)} {zs : List Str} (h : kvs.map (·.1) = zs.map Sum.inr) {i : Nat} {k : Key} {v : V} (e : kvs[i]? = some (k, v)) : ∃ z, zs[i]? = some z /\ k = .inr z := by
 have := congrArg (fun l => l[i]?) h
 simp only [getElem?_map, e] at this
 cases ez : zs[i]? with
 | none => rw [ez] at this; cases this
 | some z => rw [ez] at this; exact ⟨z, rfl, Option.some.inj this⟩
theorem dw.frz {H : Hp} {R : Addr} {zs : List Str} {nb : Str -> List Str} (h : dw H R zs nb) : ∃ kvs, H R = some (.dK kvs) /\ kvs.length = zs.length /\ kvs.map (·.1) = zs.map Sum.inr /\ ∀ o, LkF (upd H R (.frz o (.dK kvs))) R zs nb := by
 obtain ⟨kvs, h1, h2, h3⟩ := h
 refine ⟨kvs, h1, oM h2, h2, fun o => ⟨o, kvs, ak, h2, fun z hz => ?_⟩⟩
 obtain ⟨l, e1, e2⟩ := h3 z hz
 exact ⟨l, e1, by rw [aF (kI e2 h1 Z7)]; exact e2⟩
noncomputable def onL (H : Hp) (c : List Str -> Bool) : V -> Bool
 | .ref b => @decide (∃ k, H b = some (.lst (k.map V.str)) /\ c k = true) (Classical.propDecidable _)
 | _ => false
open Classical in
theorem yN {H : Hp} {c : List Str -> Bool} {b : Addr} {k : List Str} (h : H b = some (.lst (k.map V.str))) : onL H c (.ref b) = c k := by
 unfold onL
 cases e : c k with
 | true => exact decide_eq_true ⟨k, h, e⟩
 | false =>
  refine decide_eq_false fun ⟨k2, h2, e2⟩ => ?_
  rw [h] at h2
  rw [iK (HO.lst.inj (Option.some.inj h2)), e2] at e
  cases e
noncomputable def onS (c : Str -> Bool) : V -> Bool
 | .str y => c y
 | _ => false
theorem n6 (zs : List Str) (c : Str -> Bool) : (zs.map V.str).filter (onS c) = (zs.filter c).map V.str := by rw [c7]; rfl
def lM (H0 H : Hp) (prs : List (Addr × List Str)) : Prop := ∀ pr ∈ prs, H pr.1 = some (.lst (pr.2.map V.str)) /\ H0 pr.1 = none
abbrev refs (prs : List (Addr × List Str)) : List V := prs.map fun pr => V.ref pr.1
def nH (H0 H : Hp) (l : Addr) (ks : List (List Str)) : Prop := ∃ prs, H l = some (.lst (refs prs)) /\ prs.map (·.2) = ks /\ lM H0 H prs
theorem lM.same {H0 H H' : Hp} {prs : List (Addr × List Str)} (h : lM H0 H prs) (s : au H H') : lM H0 H' prs := fun pr hp => ⟨s _ _ (h pr hp).1, (h pr hp).2⟩
theorem nH.same {H0 H H' : Hp} {l : Addr} {ks : List (List Str)} (h : nH H0 H l ks) (s : au H H') : nH H0 H' l ks := by
 obtain ⟨prs, h1, h2, h3⟩ := h
 exact ⟨prs, s _ _ h1, h2, h3.same s⟩
theorem lM.sub {H0 H : Hp} {prs qrs : List (Addr × List Str)} (h : lM H0 H prs) (s : ∀ pr ∈ qrs, pr ∈ prs) : lM H0 H qrs := fun pr hp => h pr (s pr hp)
theorem pR {H0 H : Hp} {prs : List (Addr × List Str)} (h : lM H0 H prs) (c : List Str -> Bool) : (refs prs).filter (onL H c) = refs (prs.filter fun pr => c pr.2) := by
 unfold refs
 rw [List.filter_map]
 congr 1
 exact filter_congr fun pr hp => yN (h pr hp).1
theorem lF (prs : List (Addr × List Str)) (c : List Str -> Bool) : (prs.filter fun pr => c pr.2).map (·.2) = (prs.map (·.2)).filter c := by rw [List.filter_map]; rfl
theorem cD (prs : List (Addr × List Str)) : (refs prs).length = (prs.map (·.2)).length := by unfold refs; rw [length_map, length_map]
theorem vh {prs : List (Addr × List Str)} {i : Nat} {v : V} (h : (refs prs)[i]? = some v) : ∃ pr, prs[i]? = some pr /\ v = .ref pr.1 := by
 unfold refs at h
 rw [getElem?_map] at h
 cases e : prs[i]? with
 | none => rw [e] at h; cases h
 | some pr => rw [e] at h; cases h; exact ⟨pr, rfl, rfl⟩
theorem rK {prs : List (Addr × List Str)} {v : V} (h : v ∈ refs prs) : ∃ pr ∈ prs, v = .ref pr.1 := by
 obtain ⟨pr, h1, h2⟩ := mem_map.mp h
 exact ⟨pr, h1, h2.symm⟩
theorem Ea {P : Addr -> List Str -> Prop} : ∀ (ys : List V) (ks : List (List Str)), ys.length = ks.length -> (∀ (i : Nat) v k, ys[i]? = some v -> ks[i]? = some k -> ∃ b, v = .ref b /\ P b k) -> ∃ prs : List (Addr × List Str), refs prs = ys /\ prs.map (·.2) = ks /\ ∀ pr ∈ prs, P pr.1 pr.2
 | [], [], _, _ => ⟨[], rfl, rfl, fun pr hp => by cases hp⟩
 | [], _ :: _, h, _ => by simp at h
 | _ :: _, [], h, _ => by simp at h
 | v :: ys, k :: ks, h, hp => by
  obtain ⟨b, rfl, hb⟩ := hp 0 v k rfl rfl
  obtain ⟨prs, h1, h2, h3⟩ := Ea ys ks (by simpa using h) fun i v k e1 e2 => hp (i + 1) v k e1 e2
  refine ⟨(b, k) :: prs, by unfold refs at h1 ⊢; rw [map_cons, h1], by rw [map_cons, h2], fun pr hm => ?_⟩
  rcases mem_cons.mp hm with rfl | hm
  ·exact hb
  ·exact h3 pr hm
theorem yP {K : Frag} {H0 H1 H : Hp} {a b : Addr} {ks : List (List Str)} (ha : nH H0 H a ks) (hb : nH H1 H b ks) : DSq K H a b := by
 obtain ⟨ps, a1, a2, a3⟩ := ha
 obtain ⟨qs, b1, b2, b3⟩ := hb
 refine ⟨1, _, _, Z0, by rw [cD, cD, a2, b2], .inr ⟨SqL.of a1, SqL.of b1⟩, fun i x y ex ey => ?_⟩
 obtain ⟨p, ep, rfl⟩ := vh ex
 obtain ⟨r, er, rfl⟩ := vh ey
 have e : p.2 = r.2 := by
  have h1 : ks[i]? = some p.2 := by rw [<- a2, getElem?_map, ep]; rfl
  have h2 : ks[i]? = some r.2 := by rw [<- b2, getElem?_map, er]; rfl
  exact Option.some.inj (h1.symm.trans h2)
 refine .lst (SqL.of (a3 p (mem_of_getElem? ep)).1) (SqL.of (b3 r (mem_of_getElem? er)).1) (by rw [e]) fun j x y ex ey => ?_
 rw [e] at ex
 rw [ex] at ey
 cases ey
 exact Cu ((Bv _) x (mem_of_getElem? ex))
def tH (H : Hp) (p : Addr) (pl : List Str) : Prop := ∃ kvs : List (Key × V), H p = some (.dK kvs) /\ (∀ y : Str, (dR kvs (.inr y)).isSome = decide (y ∈ pl)) /\ kvs.length <= pl.length
theorem tH.same {H H' : Hp} {p : Addr} {pl : List Str} (h : tH H p pl) (s : au H H') : tH H' p pl := by
 obtain ⟨kvs, h1, h2⟩ := h
 exact ⟨kvs, s _ _ h1, h2⟩
theorem tH.put {H : Hp} {p : Addr} {pl : List Str} (h : tH H p pl) (x : Str) : ∃ kvs, H p = some (.dK kvs) /\ kvs.length <= pl.length /\ tH (upd H p (.dK (putK kvs (.inr x) (.bl true)))) p (pl ++ [x]) := by
 obtain ⟨kvs, h1, h2, h3⟩ := h
 refine ⟨kvs, h1, h3, _, ak, fun y => ?_, ?_⟩
 ·rw [lA]
  by_cases e : y = x
  ·subst e
   rw [if_pos rfl]
   simp
  ·rw [if_neg (fun k => e (Sum.inr.inj k)), h2 y]
   simp [e]
 ·rw [length_append]
  exact le_trans (gh _ _ _) (Nat.succ_le_succ h3)
def El : Sp := fun vs H Q _ => ∃ (B : Addr) (z : Str) (zs : List Str) (nb lf : Str -> List Str), vs = [.ref B, .str z] /\ LkF H B zs lf /\ vy zs nb lf /\ zs.length <= 12 /\ z ∈ zs /\ ∀ l H', H l = none -> au H H' -> H' l = some (.lst ((kn zs nb z).map V.str)) -> Q (.ref l) H'
def G8 : Sp := fun vs H Q _ => ∃ (R a p : Addr) (zs k pl : List Str) (nb : Str -> List Str), vs = [.ref R, .ref a, .ref p] /\ LkG H R zs nb /\ H a = some (.lst (k.map V.str)) /\ (∀ x ∈ k, x ∈ zs) /\ tH H p pl /\ ∀ b, (b = true ↔ may nb pl k) -> Pur (.bl b) H Q
def Hc : Sp := fun vs H Q _ => ∃ (H0 : Hp) (R l0 : Addr) (zs : List Str) (nb : Str -> List Str), vs = [.ref R, .ref l0] /\ LkG H R zs nb /\ Gr zs nb /\ nH H0 H l0 (kss zs nb) /\ ∀ l H', H l = none -> au H H' -> nH H0 H' l (kOr zs nb) -> Q (.ref l) H'
def Af (C : Nat -> Addr) : Sp := fun vs H Q _ => ∃ (h l : Addr) (ps : List bA), vs = [.ref h] /\ dF C H h l ps /\ bO ps /\ ∀ b H' zs, zs.Perm (adS ps) -> sortedS zs = true -> H b = none -> au H H' -> nH H H' b (kOr zs (cut zs (jq ps zs))) -> Q (.ref b) H'
def Hu : Sp := fun vs H Q _ => ∃ (H0 : Hp) (la R : Addr) (as : List (List Str)) (L : Nat -> Addr) (rs : Nat -> List Q4), vs = [.ref la, .ref R] /\ H la = some (.lst ((as.map dotted).map V.str)) /\ bL as /\ DictAt H0 H R as as.length L rs /\ du as rs /\
 ∀ b H' nb zs, H b = none -> au H H' -> uJ as rs nb -> zs.Perm (as.map dotted) -> sortedS zs = true -> nH H H' b (kOr zs (cut zs nb)) -> Q (.ref b) H'
def Pa (H0 H : Hp) (R To Pl : Addr) (zs : List Str) (nb : Str -> List Str) (prs : List (Addr × List Str)) (m : Nat) (σ : L2.St) (H' : Hp) : Prop := ∃ (i : Nat) (Lf : Addr) (v4 v5 : Option V) (lp tp : List (Addr × List Str)), σ = [some (.ref R), some (.ref Lf), some (.ref To), some (.ref Pl), v4, v5] /\ au H H' /\ i <= (kss zs nb).length /\ m = (kss zs nb).length - i /\
 H' Lf = some (.lst (refs lp)) /\ (∀ pr ∈ lp, pr ∈ prs) /\ lp.map (·.2) = left (kss zs nb) (run nb (kss zs nb) i) /\ Lf ≠ To /\ H' To = some (.lst (refs tp)) /\ (∀ pr ∈ tp, pr ∈ prs) /\ tp.map (·.2) = run nb (kss zs nb) i /\ tH H' Pl (run nb (kss zs nb) i).flatten
theorem ur {zs : List Str} {nb : Str -> List Str} (g : Gr zs nb) {i : Nat} (h : i <= (kss zs nb).length) : (run nb (kss zs nb) i).flatten.length <= 144 := by
 have r := pG g.kgr h
 have := o5 (n := 12) (l := run nb (kss zs nb) i) fun k hk => (nD g (r.sub k hk)).1
 rw [r.len] at this
 have := vg g
 omega
theorem Gy {zs : List Str} (h : sortedS zs = true) (nd : zs.Nodup) : zs.Pairwise fun a b => b ≠ a /\ ¬ b.cps.toList < a.cps.toList :=
 (List.Pairwise.and (oO h) nd).imp fun ⟨h1, h2⟩ => ⟨Ne.symm h2, List.not_lt.mpr h1⟩
theorem Jd {as : List (List Str)} {rs : Nat -> List Q4} {nb nc : Str -> List Str} (h1 : uJ as rs nb) (h2 : uJ as rs nc) : ∀ z ∈ as.map dotted, nb z = nc z := fun z hz => by
 obtain ⟨a, ha, rfl⟩ := mem_map.mp hz
 obtain ⟨i, hi, e⟩ := getElem_of_mem ha
 have ei : as[i]? = some a := by rw [getElem?_eq_getElem hi, e]
 obtain ⟨p1, s1⟩ := h1 i a ei
 obtain ⟨p2, s2⟩ := h2 i a ei
 exact ik (p1.trans p2.symm) s1 s2
theorem wK {ps : List bA} (nd : (adS ps).Nodup) {p : bA} (h : p ∈ ps) (zs : List Str) : jq ps zs (dotted p.ad) = zs.filter fun y => decide (y ∈ linked p) := by
 obtain ⟨i, hi, e⟩ := getElem_of_mem h
 exact uU nd (i := i) (by rw [getElem?_eq_getElem hi, e]) zs
theorem wJ {ps : List bA} (g : bO ps) (zs : List Str) : ∀ z ∈ adS ps, jq ps.reverse zs z = jq ps zs z := fun z hz => by
 obtain ⟨p, hp, rfl⟩ := mem_map.mp hz
 rw [wK g.nd hp, wK g.rev.nd (mem_reverse.mpr hp)]
theorem nH.lss {K : Frag} {H0 H : Hp} {l : Addr} {ks : List (List Str)} (h : nH H0 H l ks) : zy K H l ks := by
 obtain ⟨prs, h1, h2, h3⟩ := h
 refine ⟨_, SqL.of h1, by rw [cD, h2], fun i ls e => ?_⟩
 rw [<- h2, getElem?_map] at e
 cases ep : prs[i]? with
 | none => rw [ep] at e; cases e
 | some p =>
  rw [ep] at e
  cases e
  exact ⟨p.1, by unfold refs; rw [getElem?_map, ep]; rfl, SqL.of (h3 p (mem_of_getElem? ep)).1⟩
theorem DW {zs : List Str} {i : Nat} {z : Str} (e : zs[i]? = some z) : zs = zs.take i ++ z :: zs.drop (i + 1) := by
 obtain ⟨hi, ez⟩ := List.getElem?_eq_some_iff.mp e
 rw [<- ez, <- List.drop_eq_getElem_cons hi, List.take_append_drop]
theorem Aa {nb : Str -> List Str} {k ah : List Str} : (((k.flatMap nb).filter fun y => !decide (y ∈ k ++ ah)).isEmpty == true) = true ↔ may nb ah k := by
 rw [beq_iff_eq, List.isEmpty_iff, List.filter_eq_nil_iff]
 constructor
 ·intro h a ha y hy
  have := h y (List.mem_flatMap.mpr ⟨a, ha, hy⟩)
  have := Classical.not_not.mp fun z => this (by rw [decide_eq_false z]; rfl)
  exact mem_append.mp this
 ·intro h y hy
  obtain ⟨a, ha, hy⟩ := List.mem_flatMap.mp hy
  have := mem_append.mpr (h a ha y hy)
  rw [decide_eq_true this]
  decide
theorem kJ {nb : Str -> List Str} {n : Nat} : ∀ {k : List Str}, (∀ x ∈ k, (nb x).length <= n) -> (k.flatMap nb).length <= n * k.length
 | [], _ => zero_le _
 | x :: k, h => by
  rw [flatMap_cons, length_append, length_cons, Nat.mul_succ]
  have h1 := h x Z2
  have h2 := kJ (k := k) fun y hy => h y (mem_cons_of_mem _ hy)
  omega
theorem um {k : List Str} {x : Str} (h : k.head? = some x) : ∃ t, k.map V.str = V.str x :: t := by
 cases k with
 | nil => cases h
 | cons a b => cases h; exact ⟨_, rfl⟩
def JQ (H : Hp) (la R Bh Nr So Fo : Addr) (zs : List Str) (nb : Str -> List Str) (prs : List (Addr × List Str)) (m : Nat) (σ : L2.St) (H' : Hp) : Prop := ∃ (i : Nat) (v4 v6 v8 v9 v10 : Option V) (fp : List (Addr × List Str)), σ = [some (.ref la), some (.ref R), some (.ref Bh), some (.ref Nr), v4, some (.ref So), v6, some (.ref Fo), v8, v9, v10] /\ au H H' /\ i <= (kss zs nb).length /\ m = (kss zs nb).length - i /\
 H' Fo = some (.lst (refs fp)) /\ (∀ pr ∈ fp, pr ∈ prs) /\ fp.map (·.2) = run nb (kss zs nb) i
theorem ok0 : bO [] := ⟨Z0, (fun p hp => by cases hp), nodup_nil, (fun p hp => by cases hp), (fun p hp => by cases hp)⟩
end
structure Tx (K : Frag) (mg : Str -> Option Value) (C : Nat -> Addr) : Prop where
 sorted : mg "sorted" = none
 t_dict : mg "dict" = none
 any : mg "any" = none
 enumerate : mg "enumerate" = none
 len : mg "len" = none
 range : mg "range" = none
 inst : mg "isinstance" = none
 t_str : mg "str" = none
 t_int : mg "int" = none
 t_bool : mg "bool" = none
 t_list : mg "list" = none
 t_tuple : mg "tuple" = none
 all : mg "all" = none
 max : mg "max" = none
 min : mg "min" = none
 zip : mg "zip" = none
 g_MOST_PARTS : ∃ t, mg "MOST_PARTS" = some (.int 12 t)
 aaw : ∃ f fd, FnAt K mg "prefixes" kh iI f fd
 aad : ∃ f fd, FnAt K mg "parent_of" iT gA f fd
 aav : ∃ f fd, FnAt K mg "named_by" jn jK f fd
 aa4 : ∃ f fd, FnAt K mg "links" qC nT f fd
 aax : ∃ f fd, FnAt K mg "all_links" iy iD f fd
 aaz : ∃ f fd, FnAt K mg "reached" lV jW f fd
 aai : ∃ f fd, FnAt K mg "knot_of" lX mj f fd
 aa6 : ∃ f fd, FnAt K mg "may_come" jZ jV f fd
 aan : ∃ f fd, FnAt K mg "in_order" jT jy f fd
 aaf : ∃ f fd, FnAt K mg "knots" qK oK f fd
 aay : ∃ f fd, FnAt K mg "is_orphan" iB iz f fd
 aap : ∃ f fd, FnAt K mg "is_clash" jX jC f fd
 aao : ∃ f fd, FnAt K mg "check_parts" fY f9 f fd
 aab : ∃ f fd, FnAt K mg "_law_cell" jU pB f fd
 aaa : ∃ f fd, FnAt K mg "_law_pick" jP iW f fd
 aa0 : ∃ f fd, FnAt K mg "_law_words" iR qG f fd
 aau : ∃ f fd, FnAt K mg "_law_addresses" dD iC f fd
 aa1 : ∃ f fd, FnAt K mg "_law_asked" iV qx f fd
 aa2 : ∃ f fd, FnAt K mg "_law_drawn" iw qI f fd
 aaq : ∃ f fd, FnAt K mg "_law_rows" jL uH f fd
 aa3 : ∃ f fd, FnAt K mg "_law_row" lZ zT f fd
 aag : ∃ f fd, FnAt K mg "_law_parts" iU qw f fd
 aar : ∃ f fd, FnAt K mg "_law_made" jG vJ f fd
 aaj : ∃ f fd, FnAt K mg "_law_prefixes" eV jB f fd
 aac : ∃ f fd, FnAt K mg "_law_links" iH nP f fd
 aas : ∃ f fd, FnAt K mg "_law_behind" gJ nY f fd
 aak : ∃ f fd, FnAt K mg "_law_due" lQ zL f fd
 aa5 : ∃ f fd, FnAt K mg "_law_long" jo vf f fd
 m_Row_binds : ∃ f fd, MAt K "binds" "Row.binds" fO jE f fd /\ Meth K (C 5) "binds" f /\ Meth K (C 6) "binds" f
 m_Row_asked : ∃ f fd, MAt K "asked" "Row.asked" fW jt f fd /\ Meth K (C 0) "asked" f /\ Meth K (C 1) "asked" f /\ Meth K (C 5) "asked" f /\ Meth K (C 6) "asked" f
 i_Let : ∃ f fd, MAt K "__init__" "Let.__init__" di iQ f fd /\ Mk K (C 0) f
 m_Let_binds : ∃ f fd, MAt K "binds" "Let.binds" fZ jJ f fd /\ Meth K (C 0) "binds" f
 i_Deed : ∃ f fd, MAt K "__init__" "Deed.__init__" cL gK f fd /\ Mk K (C 1) f
 m_Deed_binds : ∃ f fd, MAt K "binds" "Deed.binds" dW je f fd /\ Meth K (C 1) "binds" f
 i_Draw : ∃ f fd, MAt K "__init__" "Draw.__init__" cG gH f fd /\ Mk K (C 2) f
 m_Draw_binds : ∃ f fd, MAt K "binds" "Draw.binds" eY jf f fd /\ Meth K (C 2) "binds" f
 m_Draw_asked : ∃ f fd, MAt K "asked" "Draw.asked" d9 jc f fd /\ Meth K (C 2) "asked" f
 i_Late : ∃ f fd, MAt K "__init__" "Late.__init__" cP gO f fd /\ Mk K (C 3) f
 m_Late_binds : ∃ f fd, MAt K "binds" "Late.binds" d8 iZ f fd /\ Meth K (C 3) "binds" f
 m_Late_asked : ∃ f fd, MAt K "asked" "Late.asked" eQ jb f fd /\ Meth K (C 3) "asked" f
 i_Take : ∃ f fd, MAt K "__init__" "Take.__init__" cN gF f fd /\ Mk K (C 4) f
 m_Take_binds : ∃ f fd, MAt K "binds" "Take.binds" eX iY f fd /\ Meth K (C 4) "binds" f
 m_Take_asked : ∃ f fd, MAt K "asked" "Take.asked" eO jh f fd /\ Meth K (C 4) "asked" f
 i_Need : ∃ f fd, MAt K "__init__" "Need.__init__" cJ gQ f fd /\ Mk K (C 5) f
 i_House : ∃ f fd, MAt K "__init__" "House.__init__" cC fX f fd /\ Mk K (C 8) f
 m_House_addresses : ∃ f fd, MAt K "addresses" "House.addresses" b7 bM f fd /\ Meth K (C 8) "addresses" f
 m_House_part : ∃ f fd, MAt K "part" "House.part" d7 fU f fd /\ Meth K (C 8) "part" f
 i_Part : ∃ f fd, MAt K "__init__" "Part.__init__" cI gM f fd /\ Mk K (C 7) f
 m_Part_bound : ∃ f fd, MAt K "bound" "Part.bound" dY fP f fd /\ Meth K (C 7) "bound" f
 c_Let : mg "Let" = some (.ref (C 0))
 c_Deed : mg "Deed" = some (.ref (C 1))
 c_Draw : mg "Draw" = some (.ref (C 2))
 c_Late : mg "Late" = some (.ref (C 3))
 c_Take : mg "Take" = some (.ref (C 4))
 c_Need : mg "Need" = some (.ref (C 5))
 c_Row : mg "Row" = some (.ref (C 6))
 c_Part : mg "Part" = some (.ref (C 7))
 c_House : mg "House" = some (.ref (C 8))
 cn : MkN K (C 6)
 fam : RL K C
 pt : Uu K (C 7)
 hs : TF K (C 8)
 c_HouseError : mg "HouseError" = some (.ref (C 20))
 c_NoPart : mg "NoPart" = some (.ref (C 21))
 x_HouseError : ExC K (C 20)
 xn : ExC K (C 21)
 xc : Fz K (C 21)
 xs : Sub K (C 21) (C 20)
 xa : cF K (C 21) "address"
 xk : kitOne K (.ref (C 21)) (.ref (C 21)) = some true
 i_NoPart : ∃ f fd, XIn K (C 21) "NoPart.__init__" gW gY f fd
 ini1 : specialIn K (.ref (C 20)) "__getattribute__" = some (some (.builtin "type.__getattribute__"))
 ini2 : readsIn K (C 20) (.type "type") = true
 ini3 : findCls K (.ref (C 20)) (.type "type") "__init__" = some (.val (.builtin "ValueError.__init__"))
section
variable {P : Program} {w : World} {K : Frag} {mg : Str -> Option Value} {base : Heap} {C : Nat -> Addr} {f : Addr} {fd : FuncData}
theorem w6 (T : Tx K mg C) (F : Fun K "__init__" "NoPart.__init__" gW f fd) : aM P w K mg base CX0 1 f fd gY (Hl (C 21) "address") := by
 refine F.oq yM fun _ _ _ _ H _ Q E hr h => ?_
 ·obtain ⟨x, y, rfl, hx, hy, q⟩ := h
  refine ⟨_, QSs.h (ao (bY (DY Z3 T.c_HouseError T.ini1 T.ini2 T.ini3 (aj (pv 0) (aj (Aw (zr aK (zr (IK (pv 1)) JC))) aq))))
   (az (Dh (pv 0) (pv 1)))), ?_⟩
  obtain ⟨z, rfl, hz⟩ := hy
  refine ⟨_, rfl, _, rfl, Z4, _, rfl, Or.inr ⟨_, rfl, le_trans hz dC, _, rfl, K8 Z4 Z1, K8 Z4 Z1, _, _, _, _, _, rfl, hx, T.xn, ?_⟩⟩
  exact ⟨_, rfl, _, rfl, _, _, _, rfl, hx, T.xc, T.xa, fun p hp hne => q p hp hne⟩
theorem wM (T : Tx K mg C) (F : Fun K "prefixes" "prefixes" kh f fd) : aM P w K mg base CX0 1 f fd iI qD := by
 refine F.oq pW fun _ _ _ _ H _ Q E hr h => ?_
 ·obtain ⟨ys, rfl, g, q⟩ := h
  refine ⟨_, QSs.h (ao (aL (i := 1) pW.nd rfl (Or.inr rfl) (dq plainAttrs_str slot_str_split type_str_split oR (pv 0) (aj aK aq)))
   (az (aO (bG (N := ["many", "names"]) [none, some 1] rfl Z5 (t7 Z3 T.range (aj aA (aj (aQ cR (aX aY Z3 T.len boot_len (aj (pv 1) aq)) aA) aq))) (fun cl C fp s H => (aG (i := 0) (by decide +kernel : (["many", "names"] : List Str).Nodup) rfl (Or.inl rfl))) (fun cl C fp s H => eU) (fun cl C fp s H => (uT (K := K) rfl plainAttrs_str slot_str_join type_str_join (rD rfl) aK (aj (gm (qR (K := K) rfl) (pv 1) lN (dZ (pv 0))) aq))))))), ?_⟩
  have h36 := g.len
  have h3 := g.hi
  refine ⟨_, rfl, rfl, _, _, rfl, rfl, Z4, le_trans (show (dotted ys).length + 2 <= 1000 by omega) dC, fun p hp => ?_⟩
  rw [dm ys g.lo g.nm]
  refine ⟨_, rfl, p, _, rfl, .inl (SqL.of ak), _, _, rfl, rfl, _, _, rfl, ⟨Z0, Z0, Z1, by rw [length_map]; omega⟩, ?_⟩
  rw [length_map, show ((ys.length : Int) + 1 - 1).toNat = ys.length from by omega]
  refine qY (fun i => V.str (dotted (ys.take (i + 1)))) (le_trans (show ys.length <= 3 by omega) Z0) (fun i H' Q' hi sm k' => ?_) (fun τ H Q Q' hh h => hh _ _ h) (fun H' sm p2 hp2 => ?_)
  ·refine ⟨rfl, rfl, _, rfl, _, rfl, _, rfl, p, _, rfl, SqL.of (sm _ _ ak), fun p3 hp3 => ?_⟩
   have e : (1 + (i : Int)) = ((i + 1 : Nat) : Int) := by omega
   have hs : ((ys.take (i + 1)).map (·.length)).sum <= (ys.take (i + 1)).length * 8 := uR fun y hy => (g.nm y (mem_of_mem_take hy)).hi
   have ht : (ys.take (i + 1)).length <= 3 := le_trans (length_take_le' _ _) h3
   refine ⟨_, p3, ys.take (i + 1), rfl, rfl, .inl (SqL.of ?_), ?_, k' _ (au.new hp3)⟩
   ·rw [ak, e, nO _ Z1]; rfl
   ·rw [show (("." : Str)).length = 1 from by decide +kernel]; omega
  ·have h0 : H p2 = none := (au.new hp).free (sm.free hp2)
   refine q p2 _ h0 (((au.new hp).trans sm).put hp2) ?_
   rw [ak]
   unfold dM
   rw [map_map]
   rfl
theorem oU (T : Tx K mg C) (F : Fun K "parent_of" "parent_of" iT f fd) : aM P w K mg base CX0 1 f fd gA rA := by
 refine F.oq xu fun _ _ _ _ H _ Q E hr h => ?_
 ·obtain ⟨ys, rfl, g, q⟩ := h
  refine ⟨_, QSs.h (az (aO (bW xY (dq plainAttrs_str PySem.F.slot_str_rpartition PySem.F.type_str_rpartition xj (pv 0) (aj aK aq)) aA (fun _ _ => rfl)))), ?_⟩
  refine ⟨_, rfl, rfl, _, _, rfl, rfl, Z4, le_trans g.len Z0, fun p hp => ⟨p, _, _, _, rfl, rfl, SqT.of ak, bf (j := 0) rfl, ?_⟩⟩
  rw [Jt g]
  exact q _ (au.new hp)
theorem uL (T : Tx K mg C) (F : Fun K "is_orphan" "is_orphan" iB f fd) : aM P w K mg base CX0 2 f fd iz (xO C) := by
 obtain ⟨fad, dad, Aad⟩ := T.aad
 have Gad : aM P w K mg base CX0 1 fad dad gA rA := oU T Aad.F
 refine F.oq pQ fun _ _ _ _ H _ Q E hr h => ?_
 ·obtain ⟨p, l, la, ys, zs, rs, rfl, hp, g, hl, hup, q⟩ := h
  have hr1 : aP 1 _ := hr
  refine ⟨_, QSs.h (ao (aL (i := 2) pQ.nd rfl (Or.inl rfl) (aR Aad Gad hr1 (aj (cY (pv 0) rfl) aq)))
   (az (aO (JD (qy Ae (pv 2) aK (aV _)) (Jw (qy gG (pv 2) (pv 1) Z3)))))), ?_⟩
  obtain ⟨dx, fs, ea, a1, a2, a3, a4, a5, hr0⟩ := id hp
  refine ⟨_, rfl, rdF ea T.pt.cl.cl T.pt.na a1 ⟨ys, rfl, g, fun H1 s1 => ?_⟩⟩
  have hfl : (zs.map V.str).all cW = true := by rw [all_eq_true]; intro v hv; obtain ⟨z, _, rfl⟩ := mem_map.mp hv; rfl
  by_cases hd : ys.dropLast = []
  ·have e : jz ys = "" := by unfold jz; rw [if_pos hd]
   exact ⟨_, rfl, rfl, _, rfl, vR (decide_eq_true (congrArg V.str e)) (q H1 s1)⟩
  ·have e : jz ys = dotted ys.dropLast := by unfold jz; rw [if_neg hd]
   have hz : dotted ys.dropLast ∈ zs := hup.resolve_left hd
   have hin : inV (V.str (jz ys)) (zs.map V.str) = true := by rw [e]; exact o9 (mem_map.mpr ⟨_, hz, rfl⟩)
   by_cases hne : jz ys = ""
   ·exact ⟨_, rfl, rfl, _, rfl, vR (decide_eq_true (congrArg V.str hne)) (q H1 s1)⟩
   ·refine ⟨_, rfl, rfl, _, rfl, yz (decide_eq_false fun z => hne (V.str.inj z)) ⟨_, rfl, _, rfl, la, _, rfl, .inl (SqL.of (s1 _ _ hl)), rfl, hfl, ?_⟩⟩
    have q2 := q H1 s1
    have e2 : (if true = true then !inV (V.str (jz ys)) (zs.map V.str) else inV (V.str (jz ys)) (zs.map V.str)) = false := by rw [hin]; rfl
    rw [<- e2] at q2
    exact q2
theorem su (T : Tx K mg C) (F : Fun K "binds" "Row.binds" fO f fd) : aM P w K mg base CX0 1 f fd jE BW := by
 refine F.oq uW fun _ _ _ _ H _ Q E hr h => ?_
 ·obtain ⟨v, rfl, q⟩ := h
  exact ⟨_, QSs.h (az (aO aK)), q H (au.refl H)⟩
theorem ig (T : Tx K mg C) (F : Fun K "asked" "Row.asked" fW f fd) : aM P w K mg base CX0 1 f fd jt vW := by
 refine F.oq vp fun _ _ _ _ H _ Q E hr h => ?_
 ·obtain ⟨v, rfl, q⟩ := h
  exact ⟨_, QSs.h (az (aO (bz aq))), by show 0 <= sizeLine; decide, fun b hb => q b _ hb (au.new hb) ak⟩
theorem oh (T : Tx K mg C) (F : Fun K "__init__" "Let.__init__" di f fd) : aM P w K mg base CX0 1 f fd iQ (vL C 0) := by
 refine F.oq wD fun _ _ _ _ H _ Q E hr h => ?_
 ·obtain ⟨x, dx, r, d, rfl, hso, hx, hts, h10, q⟩ := h
  refine ⟨_, QSs.h (ao (dG (pv 0) (pv 1))
   (az (dG (pv 0) (dI cu Z3 T.t_list boot_list (aj (pv 2) aq))))), ?_⟩
  obtain ⟨xs, hl, hxl, hxt⟩ := id hts
  have hdx : d ≠ x := kI hl hx Z7
  refine ⟨_, rfl, _, rfl, x, _, dx, _, rfl, hx, (T.fam.c 0 Z0).cl, T.fam.nn 0 Z0, lt_of_lt_of_le (zero_lt_one) Z0, _, rfl, d, _, rfl, .inl (SqL.of (by rw [aF hdx]; exact hl)), fun l hlf => ⟨_, rfl, x, _, dx, _, rfl, (by rw [aF (ji hlf).2.symm]; exact ak), (T.fam.c 0 Z0).cl, T.fam.nt 0 Z0, lt_of_lt_of_le (xq zero_lt_one) Z0, ?_⟩⟩
  obtain ⟨hl0, hlx⟩ := ji hlf
  refine q l _ hl0 (sb3 hl0) ⟨dx, _, by rw [hso]; exact ak, ?_⟩
  refine ⟨fun _ => (lkN Z4).trans lkP, fun _ => ⟨lkP, xs, by rw [aF hlx]; exact ak, hxl, fun j y e => ?_⟩, fun k => absurd k Z1, fun k => absurd k Z1, (lkN Z4).trans (lkN Z4), (lkN Z4).trans (lkN Z4), (lkN Z4).trans (lkN Z4)⟩
  obtain ⟨t, et, tm⟩ := hxt j y e
  exact ⟨t, et, tm.but hx (sb3 hl0)⟩
theorem rn (T : Tx K mg C) (F : Fun K "binds" "Let.binds" fZ f fd) : aM P w K mg base CX0 1 f fd jJ (spB C 0) := by
 refine F.oq uO fun _ _ _ _ H _ Q E hr h => ?_
 ·obtain ⟨a, l, r, rfl, hso, ra, q⟩ := h
  refine ⟨_, QSs.h (az (aO (cY (pv 0) rfl))), ?_⟩
  obtain ⟨dx, fs, ha, hf⟩ := id ra
  rw [hso] at ha
  exact ⟨_, rfl, rdF ha (T.fam.c 0 Z0).cl (T.fam.nn 0 Z0) (hf.nm (by rw [hso]; decide)) (q H (au.refl H))⟩
theorem m6 (T : Tx K mg C) (F : Fun K "__init__" "Deed.__init__" cL f fd) : aM P w K mg base CX0 1 f fd gK (vL C 1) := by
 refine F.oq uV fun _ _ _ _ H _ Q E hr h => ?_
 ·obtain ⟨x, dx, r, d, rfl, hso, hx, hts, h10, q⟩ := h
  refine ⟨_, QSs.h (ao (dG (pv 0) (pv 1))
   (az (dG (pv 0) (dI cu Z3 T.t_list boot_list (aj (pv 2) aq))))), ?_⟩
  obtain ⟨xs, hl, hxl, hxt⟩ := id hts
  have hdx : d ≠ x := kI hl hx Z7
  refine ⟨_, rfl, _, rfl, x, _, dx, _, rfl, hx, (T.fam.c 1 Z0).cl, T.fam.nn 1 Z0, lt_of_lt_of_le (zero_lt_one) Z0, _, rfl, d, _, rfl, .inl (SqL.of (by rw [aF hdx]; exact hl)), fun l hlf => ⟨_, rfl, x, _, dx, _, rfl, (by rw [aF (ji hlf).2.symm]; exact ak), (T.fam.c 1 Z0).cl, T.fam.nt 1 Z0, lt_of_lt_of_le (xq zero_lt_one) Z0, ?_⟩⟩
  obtain ⟨hl0, hlx⟩ := ji hlf
  refine q l _ hl0 (sb3 hl0) ⟨dx, _, by rw [hso]; exact ak, ?_⟩
  refine ⟨fun _ => (lkN Z4).trans lkP, fun _ => ⟨lkP, xs, by rw [aF hlx]; exact ak, hxl, fun j y e => ?_⟩, fun k => absurd k Z1, fun k => absurd k Z1, (lkN Z4).trans (lkN Z4), (lkN Z4).trans (lkN Z4), (lkN Z4).trans (lkN Z4)⟩
  obtain ⟨t, et, tm⟩ := hxt j y e
  exact ⟨t, et, tm.but hx (sb3 hl0)⟩
theorem pY (T : Tx K mg C) (F : Fun K "binds" "Deed.binds" dW f fd) : aM P w K mg base CX0 1 f fd je (spB C 1) := by
 refine F.oq tM fun _ _ _ _ H _ Q E hr h => ?_
 ·obtain ⟨a, l, r, rfl, hso, ra, q⟩ := h
  refine ⟨_, QSs.h (az (aO (cY (pv 0) rfl))), ?_⟩
  obtain ⟨dx, fs, ha, hf⟩ := id ra
  rw [hso] at ha
  exact ⟨_, rfl, rdF ha (T.fam.c 1 Z0).cl (T.fam.nn 1 Z0) (hf.nm (by rw [hso]; decide)) (q H (au.refl H))⟩
theorem ni (T : Tx K mg C) (F : Fun K "__init__" "Draw.__init__" cG f fd) : aM P w K mg base CX0 1 f fd gH (vH C 2) := by
 refine F.oq uF fun _ _ _ _ H _ Q E hr h => ?_
 ·obtain ⟨x, dx, r, rfl, hso, hx, q⟩ := h
  refine ⟨_, QSs.h (ao (dG (pv 0) (pv 1))
   (az (dG (pv 0) (pv 2)))), ?_⟩
  refine ⟨_, rfl, _, rfl, x, _, dx, _, rfl, hx, (T.fam.c 2 Z0).cl, T.fam.na 2 Z0, lt_of_lt_of_le (zero_lt_one) Z0, _, rfl, _, rfl, x, _, dx, _, rfl, ak, (T.fam.c 2 Z0).cl, T.fam.nn 2 Z0, lt_of_lt_of_le (xq zero_lt_one) Z0, ?_⟩
  refine q _ (fun b o e hb => by rw [aF hb, aF hb]; exact e) fun l => ⟨dx, _, by rw [hso]; exact ak, ?_⟩
  exact ⟨fun _ => lkP, fun k => absurd k Z1, fun _ => (lkN Z4).trans lkP, fun k => absurd k Z1, (lkN Z4).trans (lkN Z4), (lkN Z4).trans (lkN Z4), (lkN Z4).trans (lkN Z4)⟩
theorem qt (T : Tx K mg C) (F : Fun K "binds" "Draw.binds" eY f fd) : aM P w K mg base CX0 1 f fd jf (spB C 2) := by
 refine F.oq sU fun _ _ _ _ H _ Q E hr h => ?_
 ·obtain ⟨a, l, r, rfl, hso, ra, q⟩ := h
  refine ⟨_, QSs.h (az (aO (cY (pv 0) rfl))), ?_⟩
  obtain ⟨dx, fs, ha, hf⟩ := id ra
  rw [hso] at ha
  exact ⟨_, rfl, rdF ha (T.fam.c 2 Z0).cl (T.fam.nn 2 Z0) (hf.nm (by rw [hso]; decide)) (q H (au.refl H))⟩
theorem p7 (T : Tx K mg C) (F : Fun K "asked" "Draw.asked" d9 f fd) : aM P w K mg base CX0 1 f fd jc (spA C 2) := by
 refine F.oq sY fun _ _ _ _ H _ Q E hr h => ?_
 ·obtain ⟨a, l, r, rfl, hso, ra, q⟩ := h
  refine ⟨_, QSs.h (az (aO (bz (aj (cY (pv 0) rfl) aq)))), ?_⟩
  obtain ⟨dx, fs, ha, hf⟩ := id ra
  rw [hso] at ha
  exact ⟨_, rfl, rdF ha (T.fam.c 2 Z0).cl (T.fam.na 2 Z0) (hf.ad (.inl hso)) ⟨by show 1 <= sizeLine; decide, fun b hb => q b _ hb (au.new hb) ak⟩⟩
theorem m5 (T : Tx K mg C) (F : Fun K "__init__" "Late.__init__" cP f fd) : aM P w K mg base CX0 1 f fd gO (vH C 3) := by
 refine F.oq vK fun _ _ _ _ H _ Q E hr h => ?_
 ·obtain ⟨x, dx, r, rfl, hso, hx, q⟩ := h
  refine ⟨_, QSs.h (ao (dG (pv 0) (pv 1))
   (az (dG (pv 0) (pv 2)))), ?_⟩
  refine ⟨_, rfl, _, rfl, x, _, dx, _, rfl, hx, (T.fam.c 3 Z0).cl, T.fam.na 3 Z0, lt_of_lt_of_le (zero_lt_one) Z0, _, rfl, _, rfl, x, _, dx, _, rfl, ak, (T.fam.c 3 Z0).cl, T.fam.nn 3 Z0, lt_of_lt_of_le (xq zero_lt_one) Z0, ?_⟩
  refine q _ (fun b o e hb => by rw [aF hb, aF hb]; exact e) fun l => ⟨dx, _, by rw [hso]; exact ak, ?_⟩
  exact ⟨fun _ => lkP, fun k => absurd k Z1, fun _ => (lkN Z4).trans lkP, fun k => absurd k Z1, (lkN Z4).trans (lkN Z4), (lkN Z4).trans (lkN Z4), (lkN Z4).trans (lkN Z4)⟩
theorem ql (T : Tx K mg C) (F : Fun K "binds" "Late.binds" d8 f fd) : aM P w K mg base CX0 1 f fd iZ (spB C 3) := by
 refine F.oq sV fun _ _ _ _ H _ Q E hr h => ?_
 ·obtain ⟨a, l, r, rfl, hso, ra, q⟩ := h
  refine ⟨_, QSs.h (az (aO (cY (pv 0) rfl))), ?_⟩
  obtain ⟨dx, fs, ha, hf⟩ := id ra
  rw [hso] at ha
  exact ⟨_, rfl, rdF ha (T.fam.c 3 Z0).cl (T.fam.nn 3 Z0) (hf.nm (by rw [hso]; decide)) (q H (au.refl H))⟩
theorem qi (T : Tx K mg C) (F : Fun K "asked" "Late.asked" eQ f fd) : aM P w K mg base CX0 1 f fd jb (spA C 3) := by
 refine F.oq sZ fun _ _ _ _ H _ Q E hr h => ?_
 ·obtain ⟨a, l, r, rfl, hso, ra, q⟩ := h
  refine ⟨_, QSs.h (az (aO (bz (aj (cY (pv 0) rfl) aq)))), ?_⟩
  obtain ⟨dx, fs, ha, hf⟩ := id ra
  rw [hso] at ha
  exact ⟨_, rfl, rdF ha (T.fam.c 3 Z0).cl (T.fam.na 3 Z0) (hf.ad (.inr (.inl hso))) ⟨by show 1 <= sizeLine; decide, fun b hb => q b _ hb (au.new hb) ak⟩⟩
theorem nj (T : Tx K mg C) (F : Fun K "__init__" "Take.__init__" cN f fd) : aM P w K mg base CX0 1 f fd gF (Ed C) := by
 refine F.oq uG fun _ _ _ _ H _ Q E hr h => ?_
 ·obtain ⟨x, dx, r, rfl, hso, hx, q⟩ := h
  refine ⟨_, QSs.h (ao (dG (pv 0) (pv 1))
   (ao (dG (pv 0) (pv 2))
   (az (dG (pv 0) (pv 3))))), ?_⟩
  refine ⟨_, rfl, _, rfl, x, _, dx, _, rfl, hx, (T.fam.c 4 Z0).cl, T.fam.nw 4 Z0, lt_of_lt_of_le (zero_lt_one) Z0, _, rfl, _, rfl, x, _, dx, _, rfl, ak, (T.fam.c 4 Z0).cl, T.fam.na 4 Z0, lt_of_lt_of_le (xq zero_lt_one) Z0, _, rfl, _, rfl, x, _, dx, _, rfl, ak, (T.fam.c 4 Z0).cl, T.fam.nn 4 Z0, lt_of_lt_of_le (xq (xq zero_lt_one)) Z0, ?_⟩
  refine q _ (fun b o e hb => by rw [aF hb, aF hb, aF hb]; exact e) fun l => ⟨dx, _, by rw [hso]; exact ak, ?_⟩
  exact ⟨fun _ => lkP, fun k => absurd k Z1, fun _ => (lkN Z4).trans lkP, fun _ => (lkN Z4).trans ((lkN Z4).trans lkP), (lkN Z4).trans ((lkN Z4).trans (lkN Z4)), (lkN Z4).trans ((lkN Z4).trans (lkN Z4)), (lkN Z4).trans ((lkN Z4).trans (lkN Z4))⟩
theorem p8 (T : Tx K mg C) (F : Fun K "binds" "Take.binds" eX f fd) : aM P w K mg base CX0 1 f fd iY (spB C 4) := by
 refine F.oq sS fun _ _ _ _ H _ Q E hr h => ?_
 ·obtain ⟨a, l, r, rfl, hso, ra, q⟩ := h
  refine ⟨_, QSs.h (az (aO (cY (pv 0) rfl))), ?_⟩
  obtain ⟨dx, fs, ha, hf⟩ := id ra
  rw [hso] at ha
  exact ⟨_, rfl, rdF ha (T.fam.c 4 Z0).cl (T.fam.nn 4 Z0) (hf.nm (by rw [hso]; decide)) (q H (au.refl H))⟩
theorem p6 (T : Tx K mg C) (F : Fun K "asked" "Take.asked" eO f fd) : aM P w K mg base CX0 1 f fd jh (spA C 4) := by
 refine F.oq tE fun _ _ _ _ H _ Q E hr h => ?_
 ·obtain ⟨a, l, r, rfl, hso, ra, q⟩ := h
  refine ⟨_, QSs.h (az (aO (bz (aj (cY (pv 0) rfl) aq)))), ?_⟩
  obtain ⟨dx, fs, ha, hf⟩ := id ra
  rw [hso] at ha
  exact ⟨_, rfl, rdF ha (T.fam.c 4 Z0).cl (T.fam.na 4 Z0) (hf.ad (.inr (.inr hso))) ⟨by show 1 <= sizeLine; decide, fun b hb => q b _ hb (au.new hb) ak⟩⟩
theorem nG (T : Tx K mg C) (F : Fun K "__init__" "Need.__init__" cJ f fd) : aM P w K mg base CX0 1 f fd gQ (CT C) := by
 refine F.oq uI fun _ _ _ _ H _ Q E hr h => ?_
 ·obtain ⟨x, dx, r, d, rfl, hso, hx, hts, h10, q⟩ := h
  refine ⟨_, QSs.h (az (dG (pv 0) (dI cu Z3 T.t_list boot_list (aj (pv 1) aq)))), ?_⟩
  obtain ⟨xs, hl, hxl, hxt⟩ := id hts
  refine ⟨_, rfl, d, _, rfl, .inl (SqL.of hl), fun l hl0 => ⟨_, rfl, x, _, dx, _, rfl, (by rw [aF (aD hx hl0)]; exact hx), (T.fam.c 5 Z0).cl, T.fam.nt 5 Z0, lt_of_lt_of_le (zero_lt_one) Z0, ?_⟩⟩
  have hlx : l ≠ x := (aD hx hl0).symm
  refine q l _ hl0 (sb2 hl0) ⟨dx, _, by rw [hso]; exact ak, ?_⟩
  refine ⟨fun k => absurd k Z1, fun _ => ⟨lkP, xs, by rw [aF hlx]; exact ak, hxl, fun j y e => ?_⟩, fun k => absurd k Z1, fun k => absurd k Z1, lkN Z4, lkN Z4, lkN Z4⟩
  obtain ⟨t, et, tm⟩ := hxt j y e
  exact ⟨t, et, tm.but hx (sb2 hl0)⟩
theorem kj {C : Addr} {m : Str} {f : Addr} {fd : FuncData} {q : Str} {st : Stmt} {ps : List Str} {k : Nat} {sp sp' : Sp} (A : MAt K m q st ps f fd) (M : Meth K C m f) (G : aM P w K mg base CX0 k f fd ps sp) (hk : k <= 3) (h : ∀ vs H Q E, sp' vs H Q E -> sp vs H Q E) : VM P w K mg base 3 C m sp' :=
 ⟨f, fd, ps, M, (G.mono hk).imp h, A.b⟩
theorem rdB {C : Nat -> Addr} (T : Tx K mg C) {H : Hp} {a l : Addr} {r : cB} {Q : VK} (ra : dJ C H a l r) (g : GoodR r) (q : Pur (.str r.nm) H Q) : MV P w K mg base 3 "binds" (.ref a) H Q := by
 obtain ⟨so, nn, aa, ww, tt⟩ := r
 have h5 : so <= 5 := g.so
 obtain ⟨dx, fs, ha, hf⟩ := id ra
 rcases six h5 with rfl | rfl | rfl | rfl | rfl | rfl
 ·obtain ⟨f, fd, A, M⟩ := T.m_Let_binds
  exact ⟨a, C 0, dx, fs, spB C 0, rfl, ha, hf.nb, (T.fam.c 0 Z0).cl, kj A M (rn T A.F) Z0 (fun _ _ _ _ h => h), a, l, _, rfl, rfl, ra, q⟩
 ·obtain ⟨f, fd, A, M⟩ := T.m_Deed_binds
  exact ⟨a, C 1, dx, fs, spB C 1, rfl, ha, hf.nb, (T.fam.c 1 Z0).cl, kj A M (pY T A.F) Z0 (fun _ _ _ _ h => h), a, l, _, rfl, rfl, ra, q⟩
 ·obtain ⟨f, fd, A, M⟩ := T.m_Draw_binds
  exact ⟨a, C 2, dx, fs, spB C 2, rfl, ha, hf.nb, (T.fam.c 2 Z0).cl, kj A M (qt T A.F) Z0 (fun _ _ _ _ h => h), a, l, _, rfl, rfl, ra, q⟩
 ·obtain ⟨f, fd, A, M⟩ := T.m_Late_binds
  exact ⟨a, C 3, dx, fs, spB C 3, rfl, ha, hf.nb, (T.fam.c 3 Z0).cl, kj A M (ql T A.F) Z0 (fun _ _ _ _ h => h), a, l, _, rfl, rfl, ra, q⟩
 ·obtain ⟨f, fd, A, M⟩ := T.m_Take_binds
  exact ⟨a, C 4, dx, fs, spB C 4, rfl, ha, hf.nb, (T.fam.c 4 Z0).cl, kj A M (p8 T A.F) Z0 (fun _ _ _ _ h => h), a, l, _, rfl, rfl, ra, q⟩
 ·obtain ⟨f, fd, A, M⟩ := T.m_Row_binds
  exact ⟨a, C 5, dx, fs, BW, rfl, ha, hf.nb, (T.fam.c 5 Z0).cl, kj A M.1 (su T A.F) Z0 (fun _ _ _ _ h => h), .ref a, rfl, by have e : nn = "" := g.no rfl; rw [<- e]; exact q⟩
theorem rdA {C : Nat -> Addr} (T : Tx K mg C) {H : Hp} {a l : Addr} {r : cB} {Q : VK} (ra : dJ C H a l r) (g : GoodR r) (q : ∀ b H', H b = none -> au H H' -> H' b = some (.lst ((cZ r).map V.str)) -> Q (.ref b) H') : MV P w K mg base 3 "asked" (.ref a) H Q := by
 obtain ⟨so, nn, aa, ww, tt⟩ := r
 have h5 : so <= 5 := g.so
 obtain ⟨dx, fs, ha, hf⟩ := id ra
 rcases six h5 with rfl | rfl | rfl | rfl | rfl | rfl
 ·obtain ⟨f, fd, A, M⟩ := T.m_Row_asked
  exact ⟨a, C 0, dx, fs, vW, rfl, ha, hf.na, (T.fam.c 0 Z0).cl, kj A M.1 (ig T A.F) Z0 (fun _ _ _ _ h => h), .ref a, rfl, fun b H' h1 h2 h3 => q b H' h1 h2 h3⟩
 ·obtain ⟨f, fd, A, M⟩ := T.m_Row_asked
  exact ⟨a, C 1, dx, fs, vW, rfl, ha, hf.na, (T.fam.c 1 Z0).cl, kj A M.2.1 (ig T A.F) Z0 (fun _ _ _ _ h => h), .ref a, rfl, fun b H' h1 h2 h3 => q b H' h1 h2 h3⟩
 ·obtain ⟨f, fd, A, M⟩ := T.m_Draw_asked
  exact ⟨a, C 2, dx, fs, spA C 2, rfl, ha, hf.na, (T.fam.c 2 Z0).cl, kj A M (p7 T A.F) Z0 (fun _ _ _ _ h => h), a, l, _, rfl, rfl, ra, fun b H' h1 h2 h3 => q b H' h1 h2 h3⟩
 ·obtain ⟨f, fd, A, M⟩ := T.m_Late_asked
  exact ⟨a, C 3, dx, fs, spA C 3, rfl, ha, hf.na, (T.fam.c 3 Z0).cl, kj A M (qi T A.F) Z0 (fun _ _ _ _ h => h), a, l, _, rfl, rfl, ra, fun b H' h1 h2 h3 => q b H' h1 h2 h3⟩
 ·obtain ⟨f, fd, A, M⟩ := T.m_Take_asked
  exact ⟨a, C 4, dx, fs, spA C 4, rfl, ha, hf.na, (T.fam.c 4 Z0).cl, kj A M (p6 T A.F) Z0 (fun _ _ _ _ h => h), a, l, _, rfl, rfl, ra, fun b H' h1 h2 h3 => q b H' h1 h2 h3⟩
 ·obtain ⟨f, fd, A, M⟩ := T.m_Row_asked
  exact ⟨a, C 5, dx, fs, vW, rfl, ha, hf.na, (T.fam.c 5 Z0).cl, kj A M.2.2.1 (ig T A.F) Z0 (fun _ _ _ _ h => h), .ref a, rfl, fun b H' h1 h2 h3 => q b H' h1 h2 h3⟩
theorem nq (T : Tx K mg C) (F : Fun K "__init__" "Part.__init__" cI f fd) : aM P w K mg base CX0 1 f fd gM (Dk C) := by
 refine F.oq uQ fun _ _ _ _ H _ Q E hr h => ?_
 ·obtain ⟨x, dx, ad, d, rs, rfl, hx, hrs, h12, q⟩ := h
  refine ⟨_, QSs.h (ao (dG (pv 0) (pv 1))
   (az (dG (pv 0) (dI cu Z3 T.t_list boot_list (aj (pv 2) aq))))), ?_⟩
  obtain ⟨xs, hl, hxl, hxt⟩ := id hrs
  have hdx : d ≠ x := kI hl hx Z7
  refine ⟨_, rfl, _, rfl, x, _, dx, _, rfl, hx, T.pt.cl.cl, T.pt.na, lt_of_lt_of_le (zero_lt_one) Z0, _, rfl, d, _, rfl, .inl (SqL.of (by rw [aF hdx]; exact hl)), fun l hlf => ⟨_, rfl, x, _, dx, _, rfl, (by rw [aF (ji hlf).2.symm]; exact ak), T.pt.cl.cl, T.pt.nr, lt_of_lt_of_le (xq zero_lt_one) Z0, ?_⟩⟩
  obtain ⟨hl0, hlx⟩ := ji hlf
  refine q l _ hl0 (sb3 hl0) ⟨dx, _, ak, (lkN Z4).trans lkP, lkP, (lkN Z4).trans (lkN Z4), (lkN Z4).trans (lkN Z4), (lkN Z4).trans (lkN Z4), ?_⟩
  refine ⟨xs, by rw [aF hlx]; exact ak, hxl, fun j r e => ?_⟩
  obtain ⟨a, t, e2, ra⟩ := hxt j r e
  exact ⟨a, t, e2, ra.but (h12.at e) hx (sb3 hl0)⟩
theorem qj (T : Tx K mg C) (F : Fun K "bound" "Part.bound" dY f fd) : aM P w K mg base CX0 4 f fd fP (zJ C) := by
 refine F.oq mH fun _ _ _ _ H _ Q E hr h => ?_
 ·obtain ⟨p, ad, l, rs, rfl, hp, hg, q⟩ := h
  have hr3 : aP 3 _ := hr
  refine ⟨_, QSs.h (ao (iG (N := ["row"]) [none] (i := 1) mH.nd rfl (Or.inl rfl) rfl Z5 (aU (cY (pv 0) rfl)) (fun cl C fp s H => (aG (i := 0) (by decide +kernel : (["row"] : List Str).Nodup) rfl (Or.inl rfl))) (fun cl C fp s H => eU) (fun cl C fp s H => (wN (P := P) (w := w) (K := K) (mg := mg) (base := base) rfl rfl rfl rfl rfl hr3 (pv 0))))
   (az (aO (bG (N := ["name"]) [none] rfl Z5 (aU (pv 1)) (fun cl C fp s H => (aG (i := 0) (by decide +kernel : (["name"] : List Str).Nodup) rfl (Or.inl rfl))) (fun cl C fp s H => (fB (aJ Ae (pv 0) aK (aV _)))) (fun cl C fp s H => (pv 0)))))), ?_⟩
  obtain ⟨dx, fs, ea, a1, a2, a3, a4, a5, hr0⟩ := id hp
  obtain ⟨xs, hl, hxl, hxt⟩ := id hr0
  refine ⟨_, rfl, rdF ea T.pt.cl.cl T.pt.nr a2 ?_⟩
  have hx12 : xs.length <= sizeLine := le_trans (show xs.length <= 12 by rw [hxl]; exact hg.hi) Z0
  refine ⟨l, rfl, ⟨xs, SqL.of hl⟩, ?_⟩
  refine gU (fun i => (rs.map fun r => V.str r.nm).getD i .non) hx12 (SqL.of hl) (fun i x H' Q' hx sm k => ?_) (fun H' sm b hb => ?_)
  ·have hi : i < rs.length := by rw [<- hxl]; exact (List.getElem?_eq_some_iff.mp hx).1
   obtain ⟨a, t, e2, ra⟩ := hxt i rs[i] (getElem?_eq_getElem hi)
   obtain rfl : x = .ref a := by rw [hx] at e2; exact Option.some.inj e2
   refine ⟨_, rfl, rdB T (ra.same sm) (hg.at (getElem?_eq_getElem hi)) fun H'' s'' => ?_⟩
   have e : (rs.map fun r => V.str r.nm).getD i .non = V.str rs[i].nm := by simp [List.getD, hi]
   rw [<- e]
   exact k H'' s''
  ·have em : (List.range xs.length).map (fun i => (rs.map fun r => V.str r.nm).getD i .non) = rs.map fun r => V.str r.nm := by
    apply ext_getElem
    ·simp [hxl]
    ·intro i h1 h2
     have : i < rs.length := by simpa using h2
     simp [this]
   rw [em]
   refine ⟨_, rfl, b, rfl, ⟨_, SqL.of ak⟩, ?_⟩
   refine bD isE (by rw [length_map, <- hxl]; exact hx12) (SqL.of ak) (fun x H2 Q2 hx s2 k => ?_) (fun x H2 Q2 hx s2 k => ?_) (fun H2 s2 c hc => ?_)
   ·obtain ⟨r, _, rfl⟩ := mem_map.mp hx
    exact ⟨_, rfl, rfl, _, rfl, k H2 (au.refl H2)⟩
   ·exact ⟨_, rfl, k H2 (au.refl H2)⟩
   ·exact q c _ (sm.free ((au.new hb).free (s2.free hc))) (sm.trans ((au.new hb).trans (s2.put hc))) ak
theorem wk (T : Tx K mg C) (F : Fun K "is_clash" "is_clash" jX f fd) : aM P w K mg base CX0 5 f fd jC (Ad C) := by
 obtain ⟨fbg, dbg, Abg, M_bound⟩ := T.m_Part_bound
 have Gbg : aM P w K mg base CX0 4 fbg dbg fP (zJ C) := qj T Abg.F
 refine F.oq yL fun _ _ _ _ H _ Q E hr h => ?_
 ·obtain ⟨p, l, la, ys, zs, rs, rfl, hp, g, hg, hl, hcl, q⟩ := h
  have hr4 : aP 4 _ := hr
  refine ⟨_, QSs.h (az (aO (aX (Em rfl) Z3 T.any PyProof.Rows.boot_any (aj (bG (N := ["name", "addresses", "part"]) [none, some 1, some 0] rfl Z5 (aU (sJ (pv 0) T.pt.cl.cl M_bound Gbg hr4 Abg.b .nil qP)) (fun cl C fp s H => (aG (i := 0) (by decide +kernel : (["name", "addresses", "part"] : List Str).Nodup) rfl (Or.inl rfl))) (fun cl C fp s H => eU) (fun cl C fp s H => (qy (lG (K := K) rfl) (aQ bw (aQ bw (vz (K := K) rfl (pv 2) rfl) aK) (pv 0)) (pv 1) Z3))) aq)))), ?_⟩
  obtain ⟨dx, fs, ea, a1, a2, a3, a4, a5, hr0⟩ := id hp
  have hfl : (zs.map V.str).all cW = true := by rw [all_eq_true]; intro v hv; obtain ⟨z, _, rfl⟩ := mem_map.mp hv; rfl
  have hnl : (o6 rs).length <= 12 := by
   have h1 := length_filter_le isE (rs.map fun r => V.str r.nm)
   rw [length_map] at h1
   exact le_trans h1 hg.hi
  refine ⟨_, rfl, p, dx, fs, rfl, ea, a3, p, _, l, rs, rfl, hp, hg, fun b H1 hb s1 hbl => ⟨b, rfl, ⟨_, SqL.of hbl⟩, ?_⟩⟩
  refine gU (fun _ => V.bl false) (le_trans hnl Z0) (SqL.of hbl) (fun i x H' Q' hx sm k => ?_) (fun H' sm c hc => ?_)
  ·obtain ⟨r, hr, rfl, hn⟩ := yS (mem_of_getElem? hx)
   have s2 := s1.trans sm
   have h8 : r.nm.length <= 8 := (hg.ok r hr).nl
   have h36 := g.len
   refine ⟨_, rfl, rdF (s2 _ _ ea) T.pt.cl.cl T.pt.na a1 ⟨_, _, rfl, rfl, abS h36 km, _, rfl, _, _, rfl, rfl, abS (alS h36 km) h8, _, rfl, la, _, rfl, .inl (SqL.of (s2 _ _ hl)), rfl, hfl, ?_⟩⟩
   have hin : inV (V.str (dotted ys ++ "." ++ r.nm)) (zs.map V.str) = false := yr fun v hv => by
    obtain ⟨z, hz, rfl⟩ := mem_map.mp hv
    exact ⟨z, rfl, fun e => hcl r hr hn (e ▸ hz)⟩
   have k2 : Q' (V.bl false) H' := k H' (au.refl _)
   rw [<- hin] at k2
   exact k2
  ·refine ⟨c, List.replicate (o6 rs).length false, rfl, SqL.of (ak.trans ?_), ?_⟩
   ·rw [List.map_replicate]
    congr 2
    apply ext_getElem
    ·simp
    ·intro i h1 h2
     simp
   ·have e : ((List.replicate (o6 rs).length false).any id) = false := by simp
    show Q (V.bl ((List.replicate (o6 rs).length false).any id)) _
    rw [e]
    exact q _ ((s1.trans sm).put hc)
theorem qU (T : Tx K mg C) (F : Fun K "check_parts" "check_parts" fY f fd) : aM P w K mg base CX0 6 f fd f9 (za C) := by
 obtain ⟨fay, day, Aay⟩ := T.aay
 have Gay : aM P w K mg base CX0 2 fay day iz (xO C) := uL T Aay.F
 obtain ⟨fap, dap, Aap⟩ := T.aap
 have Gap : aM P w K mg base CX0 5 fap dap jC (Ad C) := wk T Aap.F
 refine F.oq fV fun _ _ _ _ H _ Q E hr h => ?_
 ·obtain ⟨l, ps, rfl, hps, g, q⟩ := h
  have hr2 : aP 2 _ := hr.mono Z0
  have hr5 : aP 5 _ := hr
  refine ⟨_, QSs.h (ao (iG (N := ["part"]) [none] (i := 1) fV.nd rfl (Or.inl rfl) rfl Z5 (aU (pv 0)) (fun cl C fp s H => (aG (i := 0) (by decide +kernel : (["part"] : List Str).Nodup) rfl (Or.inl rfl))) (fun cl C fp s H => eU) (fun cl C fp s H => (vz (K := K) rfl (pv 0) rfl)))
   (az (bU PassesOwn.never rfl (Gx (K := K) rfl Z3 T.enumerate (aj (pv 0) aq)) (nJ (K := K) (n := 2) rfl rfl (bN (aG (i := 2) fV.nd rfl (Or.inl rfl)) (bN (aG (i := 3) fV.nd rfl (Or.inl rfl)) oX)))
   (ao (bJ (aJ Ri (pv 2) (Gk T.g_MOST_PARTS) (aV _)) (az oH) aW)
   (ao (bJ (aJ pH (cY (pv 3) rfl) (gm nR (pv 1) lN (dZ (pv 2))) Z3) (az oH) aW)
   (ao (bJ (rW (aR Aay Gay hr2 (aj (pv 3) (aj (pv 1) aq)))) (az oH) aW)
   (az (bJ (rW (aR Aap Gap hr5 (aj (pv 3) (aj (pv 1) aq)))) (az oH) aW)))))))), ?_⟩
  obtain ⟨xs, hl, hxl, hxt⟩ := id hps
  have h12 := g.hi
  have hx12 : xs.length <= sizeLine := le_trans (show xs.length <= 12 by omega) Z0
  refine ⟨_, rfl, l, rfl, ⟨_, SqL.of hl⟩, gU (fun i => ((adS ps).map V.str).getD i .non) hx12 (SqL.of hl) (fun i x H' Q' hx sm k => ?_) (fun H1 s1 b hb => ?_)⟩
  ·have hi : i < ps.length := by rw [<- hxl]; exact (List.getElem?_eq_some_iff.mp hx).1
   obtain ⟨a, lr, e2, pa⟩ := hxt i ps[i] (getElem?_eq_getElem hi)
   obtain rfl : x = .ref a := by rw [hx] at e2; exact Option.some.inj e2
   obtain ⟨dx, fs, ea, a1, _⟩ := pa.same sm
   have k2 : Q' (((adS ps).map V.str).getD i .non) H' := k H' (au.refl _)
   rw [G9 hi] at k2
   exact ⟨_, rfl, rdF ea T.pt.cl.cl T.pt.na a1 k2⟩
  rw [Ac hxl]
  have s2 : au H (upd H1 b (.lst ((adS ps).map V.str))) := s1.put hb
  have hb2 : (upd H1 b (.lst ((adS ps).map V.str))) b = some (.lst ((adS ps).map V.str)) := ak
  generalize upd H1 b (.lst ((adS ps).map V.str)) = H2 at s2 hb2
  have hfl : ∀ zs : List Str, (zs.map V.str).all cW = true := dB
  refine ⟨_, rfl, l, rfl, ⟨xs, SqL.of (s2 _ _ hl)⟩, ?_⟩
  refine CZ (xs := xs) (fun i σ H' => ∃ v2 v3, σ = [some (.ref l), some (.ref b), v2, v3] /\ au H2 H') ⟨none, none, rfl, au.refl _⟩ (fun i σ H' hi hv => ?_) (fun i x p0 σ H' hx hv hp0 => ?_) (fun σ H' hv => ?_)
  ·obtain ⟨v2, v3, rfl, sm⟩ := hv
   exact SqL.of (sm _ _ (s2 _ _ hl))
  ·obtain ⟨v2, v3, rfl, sm⟩ := hv
   have hi : i < ps.length := by rw [<- hxl]; exact (List.getElem?_eq_some_iff.mp hx).1
   have er : ps[i]? = some ps[i] := getElem?_eq_getElem hi
   obtain ⟨a, lr, e2, pa0⟩ := hxt i ps[i] er
   obtain rfl : x = .ref a := by rw [hx] at e2; exact Option.some.inj e2
   have gp := g.at er
   have s3 : au H (upd H' p0 (.tup [.int (0 + (i : Int)), .ref a])) := (s2.trans sm).put hp0
   have s23 : au H2 (upd H' p0 (.tup [.int (0 + (i : Int)), .ref a])) := sm.put hp0
   obtain ⟨dx, fs, ea, a1, _⟩ := pa0.same s3
   refine ⟨p0, _, rfl, SqT.of ak, rfl, _, _, rfl, _, _, rfl, rfl, ?_⟩
   refine ⟨_, rfl, _, _, rfl, rfl, _, rfl, bj (decide_eq_false Z1) ?_⟩
   refine ⟨_, rfl, rdF ea T.pt.cl.cl T.pt.na a1 ⟨_, rfl, _, rfl, _, rfl, b, _, rfl, SqL.of (s23 _ _ hb2), fun c hc => ?_⟩⟩
   have s4 : au H (upd (upd H' p0 (.tup [.int (0 + (i : Int)), .ref a])) c (.lst (gP ((adS ps).map V.str) none (some (0 + (i : Int)))))) := s3.put hc
   have s24 : au H2 (upd (upd H' p0 (.tup [.int (0 + (i : Int)), .ref a])) c (.lst (gP ((adS ps).map V.str) none (some (0 + (i : Int)))))) := s23.put hc
   have ec : gP ((adS ps).map V.str) none (some (0 + (i : Int))) = ((adS ps).take i).map V.str := by rw [Int.zero_add, DQ, map_take]
   have hc4 : (upd (upd H' p0 (.tup [.int (0 + (i : Int)), .ref a])) c (.lst (gP ((adS ps).map V.str) none (some (0 + (i : Int)))))) c = some (.lst (((adS ps).take i).map V.str)) := ak.trans (by rw [ec])
   generalize upd (upd H' p0 (.tup [.int (0 + (i : Int)), .ref a])) c (.lst (gP ((adS ps).map V.str) none (some (0 + (i : Int))))) = H4 at s4 s24 hc4
   refine ⟨c, ((adS ps).take i).map V.str, rfl, .inl (SqL.of hc4), rfl, hfl _, _, rfl, bj (Ai g.nd er) ?_⟩
   refine ⟨_, rfl, _, rfl, a, lr, b, ps[i].ad, adS ps, ps[i].rs, rfl, pa0.same s4, gp.ad, s24 _ _ hb2, g.up _ (getElem_mem hi), fun H5 s5 => ⟨_, rfl, qg ?_⟩⟩
   refine ⟨_, rfl, _, rfl, a, lr, b, ps[i].ad, adS ps, ps[i].rs, rfl, pa0.same (s4.trans s5), gp.ad, gp.rs, (s24.trans s5) _ _ hb2, g.cl _ (getElem_mem hi), fun H6 s6 => ⟨_, rfl, qg ?_⟩⟩
   exact ⟨_, _, rfl, s24.trans (s5.trans s6)⟩
  ·obtain ⟨v2, v3, rfl, sm⟩ := hv
   exact q _ (s2.trans sm)
theorem my (T : Tx K mg C) (F : Fun K "__init__" "House.__init__" cC f fd) : aM P w K mg base CX0 7 f fd fX (Dd C) := by
 obtain ⟨fao, dao, Aao⟩ := T.aao
 have Gao : aM P w K mg base CX0 6 fao dao f9 (za C) := qU T Aao.F
 refine F.oq sW fun _ _ _ _ H _ Q E hr h => ?_
 ·obtain ⟨x, dx, d, ps, xs, rfl, hx, hl0, hps, g, q⟩ := h
  have hr6 : aP 6 _ := hr
  refine ⟨_, QSs.h (ao (bY (aR Aao Gao hr6 (aj (pv 1) aq)))
   (az (dG (pv 0) (dI cu Z3 T.t_list boot_list (aj (pv 1) aq))))), ?_⟩
  refine ⟨_, rfl, d, ps, rfl, ⟨xs, hl0, hps.1, hps.2⟩, g, fun H1 s1 => ?_⟩
  have hl := s1 _ _ hl0
  have hx1 := s1 _ _ hx
  refine ⟨_, rfl, d, _, rfl, .inl (SqL.of hl), fun l hl0 => ⟨_, rfl, x, _, dx, _, rfl, (by rw [aF (aD hx1 hl0)]; exact hx1), T.hs.cl.cl, T.hs.nt, lt_of_lt_of_le zero_lt_one Z0, ?_⟩⟩
  have hlx : l ≠ x := (aD hx1 hl0).symm
  have sb : SameBut x H1 (upd (upd H1 l (.lst xs)) x (.ins (C 8) dx (jm "told" (.ref l) []))) := sb2 hl0
  exact q l _ (s1.free hl0) (fun bb o e hb => sb bb o (s1 _ _ e) hb) ⟨dx, _, ak, lkP, lkN Z4, lkN Z4, lkN Z4⟩ (by rw [aF hlx]; exact ak)
theorem gf (T : Tx K mg C) (F : Fun K "addresses" "House.addresses" b7 f fd) : aM P w K mg base CX0 1 f fd bM (vo C) := by
 refine F.oq mU fun _ _ _ _ H _ Q E hr h => ?_
 ·obtain ⟨h0, l, ps, rfl, hh, g, q⟩ := h
  refine ⟨_, QSs.h (az (aO (aX dU Z3 T.sorted boot_sorted (aj (bG (N := ["part"]) [none] rfl Z5 (aU (cY (pv 0) rfl)) (fun cl C fp s H => (aG (i := 0) (by decide +kernel : (["part"] : List Str).Nodup) rfl (Or.inl rfl))) (fun cl C fp s H => eU) (fun cl C fp s H => (vz (K := K) rfl (pv 0) rfl))) aq)))), ?_⟩
  obtain ⟨dx, fs, ea, a1, a2, a3, a4, xs, hl, hxl, hxt⟩ := id hh
  have h12 := g.hi
  have hx12 : xs.length <= sizeLine := le_trans (show xs.length <= 12 by omega) Z0
  refine ⟨_, rfl, rdF ea T.hs.cl.cl T.hs.nt a1 ⟨l, rfl, ⟨_, SqL.of hl⟩, gU (fun i => ((adS ps).map V.str).getD i .non) hx12 (SqL.of hl) (fun i x H' Q' hx sm k => ?_) (fun H1 s1 b hb => ?_)⟩⟩
  ·have hi : i < ps.length := by rw [<- hxl]; exact (List.getElem?_eq_some_iff.mp hx).1
   obtain ⟨a, lr, e2, pa⟩ := hxt i ps[i] (getElem?_eq_getElem hi)
   obtain rfl : x = .ref a := by rw [hx] at e2; exact Option.some.inj e2
   obtain ⟨dx, fs, ea, a1, _⟩ := pa.same sm
   have k2 : Q' (((adS ps).map V.str).getD i .non) H' := k H' (au.refl _)
   rw [G9 hi] at k2
   exact ⟨_, rfl, rdF ea T.pt.cl.cl T.pt.na a1 k2⟩
  have hlen : (adS ps).length = ps.length := by unfold adS; rw [length_map]
  refine ⟨b, adS ps, rfl, SqL.of (ak.trans (by rw [Ac hxl])), Z1, fun c zs h1 h2 hc => ?_⟩
  exact q c _ zs (s1.free ((au.new hb).free hc)) ((s1.put hb).put hc) h1 h2 ak
theorem qm (T : Tx K mg C) (F : Fun K "part" "House.part" d7 f fd) : aM P w K mg base (CX1 P w) 3 f fd fU (zZ C) := by
 obtain ⟨fa7, da7, Aa7⟩ := T.i_NoPart
 have Ga7 : aM P w K mg base CX0 1 fa7 da7 gY (Hl (C 21) "address") := w6 T Aa7.F
 refine F.oqX mG fun _ _ _ _ H _ Q E hr h => ?_
 ·obtain ⟨h0, l, ps, z, rfl, hh, g, hz, q, qe⟩ := h
  have hr2 : aP 2 _ := hr
  refine ⟨_, QSs.h (ao (bU PassesOwn.leaving rfl (aU (cY (pv 0) rfl)) (aG (i := 2) mG.nd rfl (Or.inl rfl))
   (az (bJ (aJ eN (cY (pv 2) rfl) (pv 1) (aV _)) (az (aO (pv 2))) aW)))
   (az (Cw xm rfl (Ow Aa7 Ga7 hr2 T.c_NoPart T.xn (aj (pv 1) aq))))), ?_⟩
  obtain ⟨dx, fs, ea, a1, a2, a3, a4, xs, hl, hxl, hxt⟩ := id hh
  refine ⟨_, rfl, rdF ea T.hs.cl.cl T.hs.nt a1 ⟨l, rfl, ⟨xs, SqL.of hl⟩, ?_⟩⟩
  refine bI (xs := xs) (fun i σ H' => ∃ v2, σ = [some (.ref h0), some (.str z), v2] /\ au H H' /\ ∀ (j : Nat) p, j < i -> ps[j]? = some p -> ¬ dotted p.ad = z) ⟨none, rfl, au.refl _, fun j p hj => absurd hj (not_lt_zero _)⟩ ?_ ?_ ?_
  ·rintro i σ H' _ ⟨v2, rfl, sm, _⟩
   exact SqL.of (sm _ _ hl)
  ·rintro i x σ H' hx ⟨v2, rfl, sm, hb⟩
   have hi : i < ps.length := by rw [<- hxl]; exact (List.getElem?_eq_some_iff.mp hx).1
   have er : ps[i]? = some ps[i] := getElem?_eq_getElem hi
   obtain ⟨a, lr, e2, pa⟩ := hxt i ps[i] er
   obtain rfl : x = .ref a := by rw [hx] at e2; exact Option.some.inj e2
   obtain ⟨dy, gs, eb, b1, _⟩ := pa.same sm
   refine ⟨_, rfl, rdF eb T.pt.cl.cl T.pt.na b1 ⟨_, rfl, rfl, _, rfl, gj (fun hy => ?_) (fun hn => ?_)⟩⟩
   ·exact ⟨_, rfl, q i _ a lr H' sm er (V.str.inj hy) (pa.same sm)⟩
   ·refine ⟨_, rfl, sm, fun j p hj e => ?_⟩
    rcases lt_or_ge j i with k | k
    ·exact hb j p k e
    ·obtain rfl : j = i := by omega
     rw [er] at e
     cases e
     exact fun z => hn (congrArg V.str z)
  ·rintro σ H' ⟨v2, rfl, sm, hb⟩
   have hno : z ∉ adS ps := fun hm => by
    obtain ⟨p, hp, e⟩ := mem_map.mp hm
    obtain ⟨j, hj, ej⟩ := getElem_of_mem hp
    exact hb j p Z1 (by rw [getElem?_eq_getElem hj, ej]) e
   refine ⟨_, rfl, fun x hx => ⟨x, .str z, rfl, ak, ⟨z, rfl, hz⟩, fun p hp hne => ⟨rfl, x, C 21, some p, rfl, ak, T.xn, ?_⟩⟩⟩
   have s1 : au H' (upd (upd (upd (upd H' x (ExO true x (C 21) none)) p (XdO p [("address", .str z)])) x (ExO true x (C 21) (some p))) x (ExO false x (C 21) (some p))) := (((au.new hx).put hp).over hx).over hx
   exact qe hno x _ (sm.trans s1) ⟨p, ak, by rw [aF hne, aF hne]; exact ak⟩
theorem wU (T : Tx K mg C) (F : Fun K "named_by" "named_by" jn f fd) : aM P w K mg base CX0 4 f fd jK (zm C) := by
 obtain ⟨faw, daw, Aaw⟩ := T.aaw
 have Gaw : aM P w K mg base CX0 1 faw daw iI qD := wM T Aaw.F
 refine F.oq mX fun _ _ _ _ H _ Q E hr h => ?_
 ·obtain ⟨a, t, r, rfl, ra, gr, q⟩ := h
  have hr1 : aP 1 _ := hr.mono Z0
  have hr3 : aP 3 _ := hr
  refine ⟨_, QSs.h (ao (aL (i := 1) mX.nd rfl (Or.inl rfl) (bz aq))
   (ao (bU PassesOwn.never rfl (aU (wN (P := P) (w := w) (K := K) (mg := mg) (base := base) rfl rfl rfl rfl rfl hr3 (pv 0))) (aG (i := 2) mX.nd rfl (Or.inl rfl))
   (ao (bY (dq plainAttrs_list slot_list_extend type_list_extend pC (pv 1) (aj (aR Aaw Gaw hr1 (aj (pv 2) aq)) aq)))
   (az (bJ (rW (aX yG Z3 T.inst boot_isinstance (aj (pv 0) (aj (Uc T.c_Take) aq)))) (az (bY (dq plainAttrs_list PySem.F.slot_list_append PySem.F.type_list_append dj (pv 1) (aj (aQ bw (aQ bw (pv 2) aK) (cY (pv 0) rfl)) aq)))) aW))))
   (az (aO (pv 1))))), ?_⟩
  refine ⟨by show 0 <= sizeLine; decide, fun F hF => ?_⟩
  have s1 : au H (upd H F (.lst [])) := au.new hF
  have hF1 : (upd H F (.lst [])) F = some (.lst []) := ak
  generalize upd H F (.lst []) = H1 at s1 hF1
  refine ⟨_, rfl, rdA T (ra.same s1) gr (fun b H2 hb s2 hb2 => ?_)⟩
  refine ⟨b, rfl, ⟨_, SqL.of hb2⟩, ?_⟩
  have s02 := s1.trans s2
  have hF2 := s2 _ _ hF1
  have hFb : b ≠ F := (aD hF1 hb).symm
  have ha1 : (cZ r).length <= 1 := by unfold cZ; split <;> simp
  refine bI (xs := (cZ r).map V.str) (fun i σ H' => ∃ v2, σ = [some (.ref a), some (.ref F), v2] /\ au H H' /\ H' b = some (.lst ((cZ r).map V.str)) /\ H' F = some (.lst ((((cZ r).take i).flatMap fun ad => mD ad ++ (if r.so = 4 then [ad ++ "." ++ r.wd] else [])).map V.str))) ⟨none, rfl, s02, hb2, by simpa using hF2⟩ ?_ ?_ ?_
  ·rintro i σ H' _ ⟨v2, rfl, sm, hb', _⟩
   exact SqL.of hb'
  ·rintro i x σ H' hx ⟨v2, rfl, sm, hb', hF'⟩
   rw [getElem?_map] at hx
   obtain ⟨ad, ead, rfl⟩ : ∃ ad, (cZ r)[i]? = some ad /\ x = V.str ad := by
    cases e : (cZ r)[i]? with
    | none => rw [e] at hx; cases hx
    | some y => rw [e] at hx; cases hx; exact ⟨y, rfl, rfl⟩
   have hi0 : i = 0 := by have := (List.getElem?_eq_some_iff.mp ead).1; omega
   have e1 : ad = r.ad := by
    have := mem_of_getElem? ead
    unfold cZ at this
    split at this
    ·simpa using this
    ·simp at this
   obtain ⟨ys, gy, ey⟩ := gr.ad
   rw [ph ead]
   subst hi0
   subst e1
   rw [take_zero, List.flatMap_nil, nil_append]
   have hF0 : H' F = some (.lst []) := hF'
   refine ⟨_, rfl, .inl ⟨rfl, _, SqL.of hF0⟩, _, rfl, ys, (show [V.str r.ad] = [V.str (dotted ys)] by rw [ey]), gy, fun p H3 hp s3 hp3 => ⟨F, p, _, _, rfl, rfl, s3 _ _ hF0, hp3, le_trans (show 0 + ((dM ys).map V.str).length <= 3 by rw [length_map, gR]; have := gy.hi; omega) Z0, ?_⟩⟩
   rw [nil_append, <- lU gy, <- ey]
   have hl4 : ((mD r.ad).map V.str).length < 1000 := by rw [ey, lU gy, length_map, gR]; have := gy.hi; omega
   have s4 : au H (upd H3 F (.lst ((mD r.ad).map V.str))) := (sm.trans s3).over hF
   have hF4 : (upd H3 F (.lst ((mD r.ad).map V.str))) F = some (.lst ((mD r.ad).map V.str)) := ak
   have hb4 : (upd H3 F (.lst ((mD r.ad).map V.str))) b = some (.lst ((cZ r).map V.str)) := by rw [aF hFb]; exact s3 _ _ hb'
   generalize upd H3 F (.lst ((mD r.ad).map V.str)) = H4 at s4 hF4 hb4
   obtain ⟨dx, fs, era, hf⟩ := id (ra.same s4)
   have kt := T.fam.kit r.so 4 (le_trans gr.so Z0) Z0
   have ty : mC K H4 (.ref a) (.ref (C r.so)) := (T.fam.c r.so (le_trans gr.so Z0)).ty era
   by_cases h4 : r.so = 4
   ·have hk : pX r.so 4 = true := by rw [h4]; rfl
    rw [hk] at kt
    rw [if_pos h4]
    have hw := hf.wd h4
    rw [h4] at era
    refine ⟨_, rfl, _, _, _, _, rfl, ty, kt, _, rfl, T9 ?_⟩
    have h36 : r.ad.length <= 36 := by rw [ey]; exact gy.len
    refine ⟨_, rfl, .inl ⟨rfl, _, SqL.of hF4⟩, _, rfl, _, _, rfl, rfl, abS h36 km, _, rfl, rdF era (T.fam.c 4 Z0).cl (T.fam.nw 4 Z0) hw ⟨_, _, rfl, rfl, abS (alS h36 km) gr.wd.hi, F, _, _, rfl, rfl, hF4, lt_of_lt_of_le hl4 bH, ?_⟩⟩
    exact ⟨_, rfl, s4.over hF, by rw [aF hFb]; exact hb4, ak.trans (by rw [map_append]; rfl)⟩
   ·have hk : pX r.so 4 = false := by unfold pX; rw [decide_eq_false h4]; rfl
    rw [hk] at kt
    rw [if_neg h4, append_nil]
    exact ⟨_, rfl, _, _, _, _, rfl, ty, kt, _, rfl, qg ⟨_, rfl, s4, hb4, hF4⟩⟩
  ·rintro σ H' ⟨v2, rfl, sm, hb', hF'⟩
   rw [length_map, take_length] at hF'
   exact ⟨_, rfl, q F H' hF sm hF'⟩
theorem Do (T : Tx K mg C) (F : Fun K "links" "links" qC f fd) : aM P w K mg base (CX1 P w) 5 f fd nT (yZ C) := by
 obtain ⟨fad, dad, Aad⟩ := T.aad
 have Gad : aM P w K mg base CX0 1 fad dad gA rA := oU T Aad.F
 obtain ⟨fav, dav, Aav⟩ := T.aav
 have Gav : aM P w K mg base CX0 4 fav dav jK (zm C) := wU T Aav.F
 obtain ⟨fae, dae, Aae, M_haddresses⟩ := T.m_House_addresses
 have Gae : aM P w K mg base CX0 1 fae dae bM (vo C) := gf T Aae.F
 obtain ⟨fbc, dbc, Abc, M_hpart⟩ := T.m_House_part
 have Gbc : aM P w K mg base (CX1 P w) 3 fbc dbc fU (zZ C) := qm T Abc.F
 refine F.oqX oY fun _ _ _ _ H _ Q E hr h => ?_
 ·obtain ⟨h0, l, ps, z, rfl, hh, g, hz, q, qe⟩ := h
  have hr1 : aP 1 _ := hr.mono Z0
  have hr3 : aP 3 _ := hr.mono Z0
  have hr4 : aP 4 _ := hr
  refine ⟨_, QSs.h (ao (aL (i := 2) oY.nd rfl (Or.inl rfl) (Ey (pv 0) T.hs.cl.cl M_hpart Gbc hr3 Abc.b xm (aj (pv 1) aq)))
   (ao (aL (i := 3) oY.nd rfl (Or.inr rfl) (bz (aj (aR Aad Gad hr1 (aj (pv 1) aq)) aq)))
   (ao (bU PassesOwn.leaving rfl (aU (cY (pv 2) rfl)) (aG (i := 4) oY.nd rfl (Or.inl rfl))
   (az (bY (dq plainAttrs_list slot_list_extend type_list_extend pC (pv 3) (aj (aR Aav Gav hr4 (aj (pv 4) aq)) aq)))))
   (az (aO (bG (N := ["one", "named"]) [none, some 3] rfl Z5 (aU (sJ (pv 0) T.hs.cl.cl M_haddresses Gae hr1 Aae.b .nil qP)) (fun cl C fp s H => (aG (i := 0) (by decide +kernel : (["one", "named"] : List Str).Nodup) rfl (Or.inl rfl))) (fun cl C fp s H => (fB (aJ (lG (K := K) rfl) (pv 0) (pv 1) Z3))) (fun cl C fp s H => (pv 0)))))))), ?_⟩
  obtain ⟨dx, fs, ea, a1, a2, a3, a4, _⟩ := id hh
  refine ⟨_, rfl, h0, dx, fs, rfl, ea, a4, _, rfl, h0, l, ps, z, rfl, hh, g, hz, fun i p a lr H1 s1 ei ez pa => ?_, qe⟩
  have q1 := q i p ei ez
  clear q qe
  subst ez
  have gp := g.at ei
  refine ⟨_, rfl, p.ad, rfl, gp.ad, fun H2 s2 => ⟨by show 1 <= sizeLine; decide, fun F hF => ?_⟩⟩
  have s02 := s1.trans s2
  have hF0 : H F = none := s02.free hF
  have s3 : au H2 (upd H2 F (.lst [V.str (jz p.ad)])) := au.new hF
  have hF3 : (upd H2 F (.lst [V.str (jz p.ad)])) F = some (.lst [V.str (jz p.ad)]) := ak
  generalize upd H2 F (.lst [V.str (jz p.ad)]) = H3 at s3 hF3
  have pa2 := pa.same s2
  obtain ⟨dp, fp, eb, b1, b2, b3, b4, b5, xs, hl, hxl, hxt⟩ := id pa2
  have h12 := gp.rs.hi
  refine ⟨_, rfl, rdF (s3 _ _ eb) T.pt.cl.cl T.pt.nr b2 ⟨lr, rfl, ⟨_, SqL.of (s3 _ _ hl)⟩, ?_⟩⟩
  refine bI (xs := xs) (fun k σ H' => ∃ v4, σ = [some (.ref h0), some (.str (dotted p.ad)), some (.ref a), some (.ref F), v4] /\ au H2 H' /\ H' F = some (.lst ((jz p.ad :: (p.rs.take k).flatMap eG).map V.str))) ⟨none, rfl, s3, hF3⟩ ?_ ?_ ?_
  ·rintro k σ H' _ ⟨v4, rfl, sm, hF'⟩
   exact SqL.of (sm _ _ hl)
  ·rintro k x σ H' hx ⟨v4, rfl, sm, hF'⟩
   have hk : k < p.rs.length := by rw [<- hxl]; exact (List.getElem?_eq_some_iff.mp hx).1
   have er : p.rs[k]? = some p.rs[k] := getElem?_eq_getElem hk
   obtain ⟨ra, t, e2, rat⟩ := hxt k _ er
   obtain rfl : x = .ref ra := by rw [hx] at e2; exact Option.some.inj e2
   have gr := gp.rs.at er
   have h4 := ue gr
   have h5 := Bf (rs := p.rs.take k) fun r hr => gp.rs.ok r (mem_of_mem_take hr)
   have h6 : (p.rs.take k).length <= 12 := le_trans (length_take_le' _ _) h12
   refine ⟨_, rfl, .inl ⟨rfl, _, SqL.of hF'⟩, _, rfl, ra, t, p.rs[k], rfl, rat.same sm, gr, fun b H5 hb s5 hb5 => ⟨F, b, _, _, rfl, rfl, s5 _ _ hF', hb5, le_trans (show ((jz p.ad :: (p.rs.take k).flatMap eG).map V.str).length + ((eG p.rs[k]).map V.str).length <= 60 by rw [length_map, length_map, length_cons]; omega) Z0, ?_⟩⟩
   exact ⟨_, rfl, (sm.trans s5).over hF, ak.trans (by rw [ph er, <- map_append, List.cons_append])⟩
  ·rintro σ H' ⟨v4, rfl, sm, hF'⟩
   rw [hxl, take_length] at hF'
   have s0' := s02.trans sm
   refine ⟨_, rfl, h0, dx, fs, rfl, s0' _ _ ea, a2, h0, l, ps, rfl, hh.same s0', g, fun b H6 zs hb s6 hz1 hz2 hb6 => ⟨b, rfl, ⟨_, SqL.of hb6⟩, ?_⟩⟩
   have hzl : zs.length <= 12 := by rw [hz1.length_eq]; unfold adS; rw [length_map]; exact g.hi
   have hfl : ∀ zs : List Str, (zs.map V.str).all cW = true := dB
   refine bD (xs := zs.map V.str) (fun v => inV v ((linked p).map V.str)) (le_trans (show (zs.map V.str).length <= 12 by rw [length_map]; exact hzl) Z0) (SqL.of hb6) (fun x H7 Q' hx s7 k => ?_) (fun x H7 Q' hx s7 k => ?_) (fun H7 s7 c hc => ?_)
   ·obtain ⟨y, _, rfl⟩ := mem_map.mp hx
    exact ⟨_, rfl, _, rfl, F, _, rfl, .inl (SqL.of ((s6.trans s7) _ _ hF')), rfl, hfl _, _, rfl, k H7 (au.refl _)⟩
   ·exact ⟨_, rfl, k H7 (au.refl _)⟩
   rw [yV]
   exact q1 c _ zs ((s0'.trans (s6.trans s7)).free hc) ((s0'.trans (s6.trans s7)).put hc) hz1 hz2 ak
theorem vI (T : Tx K mg C) (F : Fun K "all_links" "all_links" iy f fd) : aM P w K mg base CX0 6 f fd iD (G3 C) := by
 obtain ⟨fa4, da4, Aa4⟩ := T.aa4
 have Ga4 : aM P w K mg base (CX1 P w) 5 fa4 da4 nT (yZ C) := Do T Aa4.F
 obtain ⟨fae, dae, Aae, M_haddresses⟩ := T.m_House_addresses
 have Gae : aM P w K mg base CX0 1 fae dae bM (vo C) := gf T Aae.F
 refine F.oq lL fun _ _ _ _ H _ Q E hr h => ?_
 ·obtain ⟨h0, l, ps, rfl, hh, g, q⟩ := h
  have hr1 : aP 1 _ := hr.mono Z0
  have hr5 : aP 5 _ := hr
  refine ⟨_, QSs.h (ao (aL (i := 1) lL.nd rfl (Or.inl rfl) fu)
   (ao (bU PassesOwn.never rfl (aU (sJ (pv 0) T.hs.cl.cl M_haddresses Gae hr1 Aae.b .nil qP)) (aG (i := 2) lL.nd rfl (Or.inl rfl))
   (az (QS.mk (fQ (aP.u1 hr) (pv 1) (pv 2) (Iv Aa4 Ga4 hr5 FJ (aj (pv 0) (aj (pv 2) aq))) rfl))))
   (az (aO (pv 1))))), ?_⟩
  refine fun R hR => ?_
  have s1 : au H (upd H R (.dK [])) := au.new hR
  have hR1 : (upd H R (.dK [])) R = some (.dK []) := ak
  generalize upd H R (.dK []) = H1 at s1 hR1
  obtain ⟨dx, fs, ea, a1, a2, a3, a4, _⟩ := id hh
  refine ⟨_, rfl, h0, dx, fs, rfl, s1 _ _ ea, a2, h0, l, ps, rfl, hh.same s1, g, fun b H2 zs hb s2 hz1 hz2 hb2 => ⟨b, rfl, ⟨_, SqL.of hb2⟩, ?_⟩⟩
  have hR2 := s2 _ _ hR1
  have hbR : b ≠ R := (aD hR1 hb).symm
  have hzn : zs.Nodup := hz1.nodup_iff.mpr g.nd
  have hzl : zs.length <= 12 := by rw [hz1.length_eq]; unfold adS; rw [length_map]; exact g.hi
  refine bI (xs := zs.map V.str) (fun i σ H' => ∃ v2, σ = [some (.ref h0), some (.ref R), v2] /\ au H H' /\ H' b = some (.lst (zs.map V.str)) /\ dw H' R (zs.take i) (jq ps zs)) ⟨none, rfl, s1.trans s2, hb2, [], hR2, rfl, fun z hz => by cases hz⟩ ?_ ?_ ?_
  ·rintro i σ H' _ ⟨v2, rfl, sm, hb', _⟩
   exact SqL.of hb'
  ·rintro i y σ H' hy ⟨v2, rfl, sm, hb', lk⟩
   obtain ⟨z, ez, rfl⟩ : ∃ z, zs[i]? = some z /\ y = V.str z := by
    rw [getElem?_map] at hy
    cases e : zs[i]? with
    | none => rw [e] at hy; cases hy
    | some z => rw [e] at hy; cases hy; exact ⟨z, rfl, rfl⟩
   have hz : z ∈ adS ps := hz1.mem_iff.mp (mem_of_getElem? ez)
   have hzi : z ∉ zs.take i := fun hm => by
    obtain ⟨j, hj, ej⟩ := getElem_of_mem hm
    have hji : j < i := lt_of_lt_of_le hj (length_take_le i zs)
    have e2 : zs[j]? = some z := by
     have := getElem?_eq_getElem hj
     rw [ej, getElem?_take] at this
     simpa [hji] using this
    have := (getElem?_inj (List.getElem?_eq_some_iff.mp e2).1 hzn).mp (e2.trans ez.symm)
    omega
   obtain ⟨p0, hp0, e0⟩ := mem_map.mp hz
   have hzlen : z.length <= 1000 := by rw [<- e0]; exact le_trans (g.ok p0 hp0).ad.len Z0
   refine ⟨_, rfl, _, rfl, h0, l, ps, z, rfl, hh.same sm, g, hzlen, fun j p ej ez2 c H3 zs2 hc s3 hz3 hz4 hc3 => ?_, fun hno => absurd hz hno⟩
   obtain rfl : zs2 = zs := ik (hz3.trans hz1.symm) hz4 hz2
   have hc3 : H3 c = some (.lst ((jq ps zs2 z).map V.str)) := by rw [hc3, <- ez2, uU g.nd ej]
   obtain ⟨kvs, hk1, hk2, lk2⟩ := (lk.same s3).more hzi hc3
   have htl : (zs2.take i).length <= 12 := le_trans (length_take_le' _ _) hzl
   refine ⟨_, rfl, _, rfl, R, _, rfl, n8.k (k := .inr z) hk1 (lt_of_lt_of_le (show kvs.length < 1000 by omega) bH), ?_⟩
   rw [take_succ, ez]
   exact ⟨_, rfl, (sm.trans s3).over hR, by rw [aF hbR]; exact s3 _ _ hb', lk2⟩
  ·rintro σ H' ⟨v2, rfl, sm, hb', lk⟩
   rw [length_map, take_length] at lk
   exact ⟨_, rfl, q R H' zs hz1 hz2 hR sm lk⟩
theorem yc (T : Tx K mg C) (F : Fun K "reached" "reached" lV f fd) : aM P w K mg base CX0 1 f fd jW ut := by
 refine F.oq ju fun _ _ _ _ H _ Q E hr h => ?_
 ·obtain ⟨R, a, zs, nb, rfl, lk, g, ha, q⟩ := h
  refine ⟨_, QSs.h (ao (aL (i := 2) ju.nd rfl (Or.inl rfl) (dI cu Z3 T.t_list boot_list (aj (cz (aP.u1 hr) (pv 0) (pv 1) (fun _ _ => rfl)) aq)))
   (ao (aL (i := 3) ju.nd rfl (Or.inl rfl) fu)
   (ao (QS.mk (oE PassesOwn.never (aJ zu (aX aY Z3 T.len boot_len (aj (pv 2) aq)) aA (aV _)) (QSs.h (ao (aL (i := 4) ju.nd rfl (Or.inl rfl) (yw plainAttrs_list PySem.F.slot_list_pop PySem.F.type_list_pop Hw (pv 2)))
   (az (bJ (Ep (uz (aP.u1 hr) (pv 4) (pv 3))) (ao (QS.mk (fQ (aP.u1 hr) (pv 3) (pv 4) tR rfl))
   (az (bY (dq plainAttrs_list slot_list_extend type_list_extend pC (pv 2) (aj (cz (aP.u1 hr) (pv 0) (pv 4) (fun _ _ => rfl)) aq))))) aW))))))
   (az (aO (aX (u6 rfl) Z3 T.sorted boot_sorted (aj (pv 3) aq))))))), ?_⟩
  obtain ⟨l0, dg, hl0⟩ := lk.get ha
  refine ⟨_, rfl, _, rfl, R, _, rfl, dg, l0, _, rfl, .inl (SqL.of hl0), fun A hA => ?_⟩
  have s1 : au H (upd H A (.lst ((nb a).map V.str))) := au.new hA
  have hA1 : (upd H A (.lst ((nb a).map V.str))) A = some (.lst ((nb a).map V.str)) := ak
  generalize upd H A (.lst ((nb a).map V.str)) = H1 at s1 hA1
  refine fun F hF => ?_
  have hFA : F ≠ A := (aD hA1 hF).symm
  have hF0 : H F = none := s1.free hF
  have s2 : au H (upd H1 F (.dK [])) := s1.put hF
  have hA2 : (upd H1 F (.dK [])) A = some (.lst ((nb a).map V.str)) := (au.new hF) _ _ hA1
  have hF2 : (upd H1 F (.dK [])) F = some (.dK []) := ak
  generalize upd H1 F (.dK []) = H2 at s2 hA2 hF2
  refine ⟨Ld H R A F a zs nb, ⟨_, nb a, [], [], none, rfl, s2, hA2, hF2, rfl, nodup_nil, fun x hx => .one hx, (fun x hx => by cases hx), fun y hy => .inl hy, (fun x hx => by cases hx), by have := g.len ha; simp; omega, rfl⟩, ?_⟩
  rintro m σ H' ⟨as, fs, kvs, v, rfl, sm, hA', hF', hk, hnd, has, hfs, hna, hcl, hla, rfl⟩
  have hfz : ∀ x ∈ fs, x ∈ zs := fun x hx => (hfs x hx).mem g ha
  have hfl : fs.length <= zs.length := qN hnd hfz
  have h12 := g.hi
  refine ⟨_, rfl, A, _, rfl, .inl (SqL.of hA'), _, _, rfl, rfl, _, rfl, gj (fun hpos => ?_) (fun hneg => ?_)⟩
  ·refine ⟨fun σ' H'' => ∃ m', m' < 13 * (zs.length - fs.length) + as.length /\ Ld H R A F a zs nb m' σ' H'', fun _ _ z => z, ?_⟩
   have hne : as ≠ [] := fun z => by rw [z] at hpos; exact absurd hpos Z0
   obtain ⟨bs, x, rfl⟩ : ∃ bs x, as = bs ++ [x] := ⟨as.dropLast, as.getLast hne, (List.dropLast_concat_getLast hne).symm⟩
   have hx := has x Z2
   have hxz := hx.mem g ha
   have hlast : ((bs ++ [x]).map V.str)[((bs ++ [x]).map V.str).length - 1]? = some (V.str x) := by simp
   have hdrop : ((bs ++ [x]).map V.str).dropLast = bs.map V.str := by rw [map_append]; exact List.dropLast_concat
   have hl1 : (bs ++ [x]).length = bs.length + 1 := by simp
   refine ⟨_, rfl, .inl ⟨rfl, _, SqL.of hA'⟩, A, _, _, rfl, rfl, hA', hlast, ?_⟩
   rw [hdrop]
   have sA : au H (upd H' A (.lst (bs.map V.str))) := sm.over hA
   have hA3 : (upd H' A (.lst (bs.map V.str))) A = some (.lst (bs.map V.str)) := ak
   have hF3 : (upd H' A (.lst (bs.map V.str))) F = some (.dK kvs) := by rw [aF hFA]; exact hF'
   generalize upd H' A (.lst (bs.map V.str)) = H3 at sA hA3 hF3
   refine ⟨_, rfl, _, rfl, F, _, rfl, jD.k (k := .inr x) hF3, _, rfl, ?_⟩
   rw [has_key hk x]
   by_cases hin : x ∈ fs
   ·refine bj (by rw [decide_eq_true hin]; rfl) ?_
    refine ⟨_, Z1, bs, fs, kvs, _, rfl, sA, hA3, hF3, hk, hnd, fun y hy => has y (by simp [hy]), hfs, fun y hy => ?_, fun z hz y hy => ?_, Z1, rfl⟩
    ·rcases hna y hy with k | k
     ·rcases mem_append.mp k with k | k
      ·exact .inl k
      ·rw [mem_singleton.mp k]; exact .inr hin
     ·exact .inr k
    ·rcases hcl z hz y hy with k | k
     ·rcases mem_append.mp k with k | k
      ·exact .inl k
      ·rw [mem_singleton.mp k]; exact .inr hin
     ·exact .inr k
   ·refine cU (by rw [decide_eq_false hin]; rfl) ?_
    have hkl := oM hk
    refine ⟨_, rfl, _, rfl, F, _, rfl, n8.k (k := .inr x) hF3 (lt_of_lt_of_le (show kvs.length < 1000 by omega) bH), ?_⟩
    have sB : au H (upd H3 F (.dK (putK kvs (.inr x) (.bl true)))) := sA.over hF0
    have hA4 : (upd H3 F (.dK (putK kvs (.inr x) (.bl true)))) A = some (.lst (bs.map V.str)) := by rw [aF hFA.symm]; exact hA3
    have hF4 : (upd H3 F (.dK (putK kvs (.inr x) (.bl true)))) F = some (.dK (putK kvs (.inr x) (.bl true))) := ak
    generalize upd H3 F (.dK (putK kvs (.inr x) (.bl true))) = H4 at sB hA4 hF4
    obtain ⟨l, dg4, hl4⟩ := (lk.same sB).get hxz
    have hnl := g.len hxz
    refine ⟨_, rfl, .inl ⟨rfl, _, SqL.of hA4⟩, _, rfl, _, rfl, R, _, rfl, dg4, A, l, _, _, rfl, rfl, hA4, hl4, le_trans (show (bs.map V.str).length + ((nb x).map V.str).length <= 1000 by rw [length_map, length_map]; omega) dC, ?_⟩
    have hfl2 : (fs ++ [x]).length <= zs.length := qN (vO hnd hin) fun y hy => by
     rcases mem_append.mp hy with k | k
     ·exact hfz y k
     ·rw [mem_singleton.mp k]; exact hxz
    have hfl3 : (fs ++ [x]).length = fs.length + 1 := by simp
    have hbl : (bs ++ nb x).length = bs.length + (nb x).length := length_append
    refine ⟨13 * (zs.length - (fs ++ [x]).length) + (bs ++ nb x).length, Z1, bs ++ nb x, fs ++ [x], _, _, rfl, sB.over hA, ak.trans (by rw [map_append]), by rw [aF hFA]; exact hF4, wI hk hin _, vO hnd hin, fun y hy => ?_, fun y hy => ?_, fun y hy => ?_, fun z hz y hy => ?_, Z1, rfl⟩
    ·rcases mem_append.mp hy with k | k
     ·exact has y (by simp [k])
     ·exact .more hx k
    ·rcases mem_append.mp hy with k | k
     ·exact hfs y k
     ·rw [mem_singleton.mp k]; exact hx
    ·rcases hna y hy with k | k
     ·rcases mem_append.mp k with k | k
      ·exact .inl (mem_append_left _ k)
      ·exact .inr (mem_append_right _ k)
     ·exact .inr (mem_append_left _ k)
    ·rcases mem_append.mp hz with k | k
     ·rcases hcl z k y hy with k | k
      ·rcases mem_append.mp k with k | k
       ·exact .inl (mem_append_left _ k)
       ·exact .inr (mem_append_right _ k)
      ·exact .inr (mem_append_left _ k)
     ·rw [mem_singleton.mp k] at hy
      exact .inl (mem_append_right _ hy)
  ·obtain rfl : as = [] := by
    cases as with
    | nil => rfl
    | cons x t => exact absurd (show (0 : Int) < (((x :: t).map V.str).length : Int) by rw [length_map, length_cons]; omega) hneg
   refine ⟨_, rfl, F, kvs, fs, rfl, hF', hk, Z1, fun l ys h1 h2 hl => ?_⟩
   refine q l _ ys (sm.free hl) (sm.put hl) (h1.nodup_iff.mpr hnd) h2 (fun y => ?_) ak
   rw [h1.mem_iff]
   refine ⟨fun hy => hfs y hy, fun hy => hy.in (fun y hy => ?_) (fun z hz y hy => ?_)⟩
   ·exact (hna y hy).resolve_left Z2
   ·exact (hcl z hz y hy).resolve_left Z2
theorem xV (T : Tx K mg C) (F : Fun K "knot_of" "knot_of" lX f fd) : aM P w K mg base CX0 1 f fd mj El := by
 refine F.oq Al fun _ _ _ _ H _ Q E hr h => ?_
 ·obtain ⟨B, z, zs, nb, lf, rfl, lk, hbh, h12, hz, q⟩ := h
  refine ⟨_, QSs.h (az (aO (bG (N := ["one", "address", "led"]) [none, some 1, some 0] rfl Z5 (uP (pv 0)) (fun cl C fp s H => (aG (i := 0) (by decide +kernel : (["one", "address", "led"] : List Str).Nodup) rfl (Or.inl rfl))) (fun cl C fp s H => (fB (PW.pt (zY (aJ eN (pv 0) (pv 1) (aV _)) (vN (PW.pt (mV (aJ (lG (K := K) rfl) (pv 0) (cz (aP.u1 hr) (pv 2) (pv 1) (fun _ _ => rfl)) Z3) (lO (aJ (lG (K := K) rfl) (pv 1) (cz (aP.u1 hr) (pv 2) (pv 0) (fun _ _ => rfl)) Z3))))))))) (fun cl C fp s H => (pv 0))))), ?_⟩
  have hfl : ∀ zs : List Str, (zs.map V.str).all cW = true := dB
  obtain ⟨o, kvs, hB, hk, _⟩ := id lk
  have hkl := oM hk
  obtain ⟨lz, dgz, hlz⟩ := lk.g.gets hz
  refine ⟨_, rfl, B, kvs, rfl, .inl ⟨o, hB, rZ (onS (knB (Rch nb) z)) (le_trans (show kvs.length <= 12 by omega) Z0) hB (fun v H' Q' hv sm k => ?_) (fun v H' Q' hv sm k => ?_) (fun H7 s7 l hl => ?_)⟩⟩
  ·rw [pN hk] at hv
   obtain ⟨y, hy, rfl⟩ := mem_map.mp hv
   obtain ⟨ly, dgy, hly⟩ := lk.g.gets hy
   have kk : ∀ b, (b = true ↔ (y = z \/ (Rch nb z y /\ Rch nb y z))) -> Q' b H' := fun b e => by
    have : onS (knB (Rch nb) z) (.str y) = b := by
     show knB (Rch nb) z y = b
     exact Bool.eq_iff_iff.mpr (lW.trans e.symm)
    rw [<- this]
    exact k H' (au.refl _)
   refine ⟨_, rfl, _, rfl, rfl, _, rfl, ?_⟩
   by_cases e : y = z
   ·exact cU (decide_eq_true (by rw [e])) (kk true ⟨fun _ => .inl e, fun _ => rfl⟩)
   ·refine bj (decide_eq_false (fun k => e (V.str.inj k))) ?_
    refine ⟨_, rfl, _, rfl, _, rfl, B, _, rfl, dgz _ sm, lz, _, rfl, .inl (SqL.of (sm _ _ hlz)), rfl, hfl _, _, rfl, ?_⟩
    by_cases h1 : y ∈ lf z
    ·refine cU (by rw [ie, decide_eq_true h1]; rfl) ?_
     refine ⟨_, rfl, _, rfl, _, rfl, B, _, rfl, dgy _ sm, ly, _, rfl, .inl (SqL.of (sm _ _ hly)), rfl, hfl _, _, rfl, ?_⟩
     exact kk (inV (.str z) ((lf y).map V.str)) (by rw [ie, decide_eq_true_iff, (hbh y hy).2]; exact ⟨fun h2 => .inr ⟨((hbh z hz).2 y).mp h1, h2⟩, fun h => (h.resolve_left e).2⟩)
    ·exact bj (by rw [ie, decide_eq_false h1]; rfl) (kk false ⟨(fun w => Bool.noConfusion w), fun h => absurd (((hbh z hz).2 y).mpr (h.resolve_left e).1) h1⟩)
  ·rw [pN hk] at hv
   obtain ⟨y, hy, rfl⟩ := mem_map.mp hv
   exact ⟨_, rfl, k H' (au.refl _)⟩
  ·rw [pN hk, n6]
   exact q l _ (s7.free hl) (s7.put hl) ak
theorem wB (T : Tx K mg C) (F : Fun K "may_come" "may_come" jZ f fd) : aM P w K mg base CX0 1 f fd jV G8 := by
 refine F.oq mY fun _ _ _ _ H _ Q E hr h => ?_
 ·obtain ⟨R, a, p, zs, k, pl, nb, rfl, lk, ha, hk, hp, q⟩ := h
  refine ⟨_, QSs.h (ao (bU PassesOwn.never rfl (aU (pv 1)) (aG (i := 3) mY.nd rfl (Or.inl rfl))
   (az (bU PassesOwn.never rfl (aU (cz (aP.u1 hr) (pv 0) (pv 3) (fun _ _ => rfl))) (aG (i := 4) mY.nd rfl (Or.inl rfl))
   (az (bJ (PW.pt (mV (aJ gG (pv 4) (pv 1) Z3) (lO (Ep (uz (aP.u1 hr) (pv 4) (pv 2)))))) (az (aO tR)) aW)))))
   (az (aO tR))), ?_⟩
  have hfl : ∀ zs : List Str, (zs.map V.str).all cW = true := dB
  have at_ : ∀ {zs : List Str} {i : Nat} {v : V}, (zs.map V.str)[i]? = some v -> ∃ x, zs[i]? = some x /\ v = V.str x := fun {zs i v} h => by
   rw [getElem?_map] at h
   cases e : zs[i]? with
   | none => rw [e] at h; cases h
   | some a => rw [e] at h; cases h; exact ⟨a, rfl, rfl⟩
  obtain ⟨kvs, hp1, hp2, _⟩ := hp
  refine ⟨_, rfl, a, rfl, ⟨_, SqL.of ha⟩, ?_⟩
  refine bI (xs := k.map V.str) (fun i σ H' => ∃ v3 v4, σ = [some (.ref R), some (.ref a), some (.ref p), v3, v4] /\ au H H' /\ ∀ x ∈ k.take i, ∀ y ∈ nb x, y ∈ k \/ y ∈ pl) ⟨none, none, rfl, au.refl _, fun x hx => by cases hx⟩ ?_ ?_ ?_
  ·rintro i σ H' _ ⟨v3, v4, rfl, sm, _⟩
   exact SqL.of (sm _ _ ha)
  ·rintro i v σ H1 hv ⟨v3, v4, rfl, sm, hok⟩
   obtain ⟨x, ex, rfl⟩ := at_ hv
   obtain ⟨lx, dgx, hlx⟩ := (lk.same sm).get (hk x (mem_of_getElem? ex))
   refine ⟨_, rfl, _, rfl, R, _, rfl, dgx, lx, rfl, ⟨_, SqL.of hlx⟩, ?_⟩
   refine bI (xs := (nb x).map V.str) (fun j σ H' => ∃ v4, σ = [some (.ref R), some (.ref a), some (.ref p), some (.str x), v4] /\ au H1 H' /\ ∀ y ∈ (nb x).take j, y ∈ k \/ y ∈ pl) ⟨_, rfl, au.refl _, fun y hy => by cases hy⟩ ?_ ?_ ?_
   ·rintro j σ H' _ ⟨v4, rfl, s2, _⟩
    exact SqL.of (s2 _ _ hlx)
   ·rintro j v σ H2 hv ⟨v4, rfl, s2, hj⟩
    obtain ⟨y, ey, rfl⟩ := at_ hv
    have hym := mem_of_getElem? ey
    have sm2 := sm.trans s2
    have more : (y ∈ k \/ y ∈ pl) -> ∀ u ∈ (nb x).take (j + 1), u ∈ k \/ u ∈ pl := fun h u hu => by
     rw [take_succ, ey] at hu
     rcases mem_append.mp hu with z | z
     ·exact hj u z
     ·have z : u = y := by simpa using z
      rw [z]; exact h
    refine ⟨_, rfl, _, rfl, a, _, rfl, .inl (SqL.of (sm2 _ _ ha)), rfl, hfl _, _, rfl, ?_⟩
    by_cases h1 : y ∈ k
    ·exact bj (by rw [ie, decide_eq_true h1]; rfl) (qg ⟨_, rfl, s2, more (.inl h1)⟩)
    ·refine cU (by rw [ie, decide_eq_false h1]; rfl) ?_
     refine ⟨_, rfl, _, rfl, p, _, rfl, jD.k (k := .inr y) (sm2 _ _ hp1), _, rfl, ?_⟩
     by_cases h2 : y ∈ pl
     ·exact bj (by rw [hp2 y, decide_eq_true h2]; rfl) ⟨_, rfl, s2, more (.inr h2)⟩
     ·refine cU (by rw [hp2 y, decide_eq_false h2]; rfl) ?_
      exact q false ⟨fun z => (Bool.noConfusion z), fun h => ((h x (mem_of_getElem? ex) y hym).elim h1 h2).elim⟩ _ sm2
   ·rintro σ H2 ⟨v4, rfl, s2, hj⟩
    rw [length_map, take_length] at hj
    refine ⟨_, _, rfl, sm.trans s2, fun u hu y hy => ?_⟩
    rw [take_succ, ex] at hu
    rcases mem_append.mp hu with z | z
    ·exact hok u z y hy
    ·have z : u = x := by simpa using z
     rw [z] at hy; exact hj y hy
  ·rintro σ H1 ⟨v3, v4, rfl, sm, hok⟩
   rw [length_map, take_length] at hok
   exact q true ⟨fun _ => hok, fun _ => rfl⟩ _ sm
theorem xH (T : Tx K mg C) (F : Fun K "in_order" "in_order" jT f fd) : aM P w K mg base CX0 2 f fd jy Hc := by
 obtain ⟨fa6, da6, Aa6⟩ := T.aa6
 have Ga6 : aM P w K mg base CX0 1 fa6 da6 jV G8 := wB T Aa6.F
 refine F.oq fH fun _ _ _ _ H _ Q E hr h => ?_
 ·obtain ⟨H0, R, l0, zs, nb, rfl, lk, g, ka, q⟩ := h
  have hr1 : aP 1 _ := hr
  refine ⟨_, QSs.h (ao (aL (i := 2) fH.nd rfl (Or.inl rfl) (bz aq))
   (ao (aL (i := 3) fH.nd rfl (Or.inr rfl) fu)
   (ao (QS.mk (oE PassesOwn.never (aJ zu (aX aY Z3 T.len boot_len (aj (pv 1) aq)) aA (aV _)) (QSs.h (ao (aL (i := 4) fH.nd rfl (Or.inr rfl) (bW bC (bG (N := ["knot", "linked", "placed"]) [none, some 0, some 3] rfl Z5 (aU (pv 1)) (fun cl C fp s H => (aG (i := 0) (by decide +kernel : (["knot", "linked", "placed"] : List Str).Nodup) rfl (Or.inl rfl))) (fun cl C fp s H => (fB (rW (aR Aa6 Ga6 hr1 (aj (pv 1) (aj (pv 0) (aj (pv 2) aq))))))) (fun cl C fp s H => (pv 0))) aA (fun _ _ => rfl)))
   (ao (iG (N := ["knot", "free"]) [none, some 4] (i := 1) fH.nd rfl (Or.inl rfl) rfl Z5 (aU (pv 1)) (fun cl C fp s H => (aG (i := 0) (by decide +kernel : (["knot", "free"] : List Str).Nodup) rfl (Or.inl rfl))) (fun cl C fp s H => (fB (aJ (Jg (K := K) rfl hr.units) (pv 0) (pv 1) (aV _)))) (fun cl C fp s H => (pv 0)))
   (ao (bY (dq plainAttrs_list PySem.F.slot_list_append PySem.F.type_list_append dj (pv 2) (aj (pv 4) aq)))
   (az (bU PassesOwn.never rfl (aU (pv 4)) (aG (i := 5) fH.nd rfl (Or.inl rfl))
   (az (QS.mk (fQ (aP.u1 hr) (pv 3) (pv 5) tR rfl)))))))))))
   (az (aO (pv 2)))))), ?_⟩
  obtain ⟨prs, hl0, hp2, hpa⟩ := ka
  have kg := g.kgr
  have hkl := vg g
  refine ⟨by show 0 <= sizeLine; decide, fun To hTo => fun Pl hPl => ?_⟩
  have hPl0 : H Pl = none := (au.new hTo).free hPl
  have hTP : To ≠ Pl := aD ak hPl
  have s0 : au H (upd (upd H To (.lst [])) Pl (.dK [])) := (au.new hTo).put hPl
  have hT0 : (upd (upd H To (.lst [])) Pl (.dK [])) To = some (.lst []) := (au.new hPl) _ _ ak
  have hP0 : (upd (upd H To (.lst [])) Pl (.dK [])) Pl = some (.dK []) := ak
  generalize upd (upd H To (.lst [])) Pl (.dK []) = H1 at s0 hT0 hP0
  refine ⟨Pa H0 H R To Pl zs nb prs, ⟨_, 0, l0, none, none, prs, [], rfl, s0, zero_le _, rfl, s0 _ _ hl0, fun pr hp => hp, ?_, aD hl0 hTo, hT0, (fun pr hp => by cases hp), rfl, ⟨[], hP0, (fun y => by simp [Kn.run]; rfl), zero_le _⟩⟩, ?_⟩
  ·rw [hp2]
   unfold left
   exact (List.filter_eq_self.mpr fun k _ => decide_eq_true (by simp [Kn.run])).symm
  rintro m σ H2 ⟨i, Lf, v4, v5, lp, tp, rfl, sm, hi, rfl, hLf, hlp, elp, hLT, hTo2, htp, etp, hPl2⟩
  have r := pG kg hi
  have hln := Fb (Hs kg) r hi
  refine ⟨_, rfl, Lf, _, rfl, .inl (SqL.of hLf), _, _, rfl, rfl, _, rfl, gj (fun hpos => ?_) (fun hneg => ?_)⟩
  ·refine ⟨fun σ' H'' => ∃ m', m' < (kss zs nb).length - i /\ Pa H0 H R To Pl zs nb prs m' σ' H'', fun _ _ z => z, ?_⟩
   have hlt : i < (kss zs nb).length := by
    rcases lt_or_ge i (kss zs nb).length with z | z
    ·exact z
    ·have := hln.mpr (Nat.le_antisymm hi z)
     rw [<- elp] at this
     rw [map_eq_nil_iff.mp this] at hpos
     exact absurd hpos Z0
   obtain ⟨t, ec⟩ := rE kg r hlt
   have hpl : lM H0 H2 lp := (hpa.same sm).sub hlp
   have hll : (refs lp).length <= 12 := by
    rw [cD, elp]
    unfold left
    exact le_trans (length_filter_le _ _) hkl
   have inl_ : ∀ pr ∈ lp, pr.2 ∈ kss zs nb := fun pr hp => by rw [<- hp2]; exact mem_map.mpr ⟨pr, hlp pr hp, rfl⟩
   let c1 : List Str -> Bool := fun k => @decide (may nb (run nb (kss zs nb) i).flatten k) (Classical.propDecidable _)
   have hc1 : ∀ k, c1 k = true ↔ may nb (run nb (kss zs nb) i).flatten k := fun k => @decide_eq_true_iff _ (Classical.propDecidable _)
   have ecand : (lp.filter fun pr => c1 pr.2).map (·.2) = mz nb (kss zs nb) (run nb (kss zs nb) i) := by
    rw [lF, elp]; exact Ck
   clear_value c1
   refine ⟨_, rfl, Lf, rfl, ⟨_, SqL.of hLf⟩, bD (xs := refs lp) (onL H2 c1) (le_trans hll Z0) (SqL.of hLf) (fun v H' Q' hv sv k => ?_) (fun v H' Q' hv sv k => ?_) (fun H3 s3 fl hfl => ?_)⟩
   ·obtain ⟨pr, hpr, rfl⟩ := rK hv
    have hb := (hpl pr hpr).1
    rw [yN hb] at k
    exact ⟨_, rfl, _, rfl, _, rfl, R, pr.1, Pl, zs, pr.2, _, nb, rfl, lk.same (sm.trans sv), sv _ _ hb, (nD g (inl_ pr hpr)).2, hPl2.same sv, fun b e H4 s4 => ⟨_, rfl, by
     have eb : c1 pr.2 = b := Bool.eq_iff_iff.mpr ((hc1 _).trans e.symm)
     rw [<- eb]
     exact k H4 s4⟩⟩
   ·exact ⟨_, rfl, k H' (au.refl _)⟩
   rw [pR hpl]
   have esub : ∀ pr ∈ (lp.filter fun pr => c1 pr.2), pr ∈ lp := fun pr hp => (mem_filter.mp hp).1
   rw [ec] at ecand
   generalize (lp.filter fun pr => c1 pr.2) = fs at ecand esub
   obtain ⟨fr, ft, rfl⟩ : ∃ fr ft, fs = fr :: ft := by
    cases fs with
    | nil => cases ecand
    | cons a b => exact ⟨a, b, rfl⟩
   have efr : fr.2 = nxt nb (kss zs nb) (run nb (kss zs nb) i) := (List.cons.inj ecand).1
   have hfrl := esub fr Z2
   have s23 : au H2 (upd H3 fl (.lst (refs (fr :: ft)))) := s3.put hfl
   have hfl3 : (upd H3 fl (.lst (refs (fr :: ft)))) fl = some (.lst (refs (fr :: ft))) := ak
   generalize upd H3 fl (.lst (refs (fr :: ft))) = H4 at s23 hfl3
   refine ⟨fl, _, _, _, rfl, rfl, SqL.of hfl3, bf (j := 0) rfl, ?_⟩
   have hfr4 := s23 _ _ (hpl fr hfrl).1
   have hpl4 := hpl.same s23
   have hLf4 := s23 _ _ hLf
   refine ⟨_, rfl, Lf, rfl, ⟨_, SqL.of hLf4⟩, bD (xs := refs lp) (onL H4 fun k => !decide (k = fr.2)) (le_trans hll Z0) (SqL.of hLf4) (fun v H' Q' hv sv k => ?_) (fun v H' Q' hv sv k => ?_) (fun H5 s5 L2 hL2 => ?_)⟩
   ·obtain ⟨pr, hpr, rfl⟩ := rK hv
    have hb := (hpl4 pr hpr).1
    rw [yN hb] at k
    exact ⟨_, rfl, _, rfl, pr.1, fr.1, pr.2, fr.2, rfl, rfl, SqL.of (sv _ _ hb), SqL.of (sv _ _ hfr4), _, rfl, k H' (au.refl _)⟩
   ·exact ⟨_, rfl, k H' (au.refl _)⟩
   rw [pR hpl4]
   have elp2 : (lp.filter fun pr => !decide (pr.2 = fr.2)).map (·.2) = left (kss zs nb) (run nb (kss zs nb) (i + 1)) := by
    rw [lF lp (fun k => !decide (k = fr.2)), elp, efr]
    refine Eq.trans ?_ Ar
    refine filter_congr fun k _ => ?_
    congr 1
    exact decide_eq_decide.mpr Iff.rfl
   have hlp2 : ∀ pr ∈ (lp.filter fun pr => !decide (pr.2 = fr.2)), pr ∈ prs := fun pr hp => hlp pr (mem_filter.mp hp).1
   generalize (lp.filter fun pr => !decide (pr.2 = fr.2)) = lq at elp2 hlp2
   have s25 : au H2 (upd H5 L2 (.lst (refs lq))) := (s23.trans s5).put hL2
   have hLT2 : L2 ≠ To := fun z => by
    have := (s23.trans s5).free hL2
    rw [z, hTo2] at this
    cases this
   have hL5 : (upd H5 L2 (.lst (refs lq))) L2 = some (.lst (refs lq)) := ak
   generalize upd H5 L2 (.lst (refs lq)) = H6 at s25 hL5
   have hTo6 := s25 _ _ hTo2
   have htl : tp.length = i := by have := congrArg List.length etp; rw [length_map, r.len] at this; exact this
   refine ⟨_, rfl, .inl ⟨rfl, _, SqL.of hTo6⟩, _, rfl, To, _, _, rfl, rfl, hTo6, lt_of_lt_of_le (show (refs tp).length < 1000 by rw [cD, length_map]; omega) bH, ?_⟩
   have etp2 : (tp ++ [fr]).map (·.2) = run nb (kss zs nb) (i + 1) := by
    rw [map_append, etp, List.map_singleton, efr]; rfl
   have htp2 : ∀ pr ∈ tp ++ [fr], pr ∈ prs := fun pr hp => by
    rcases mem_append.mp hp with z | z
    ·exact htp pr z
    ·rw [mem_singleton.mp z]; exact hlp fr hfrl
   have sm7 : au H (upd H6 To (.lst (refs tp ++ [V.ref fr.1]))) := (sm.trans s25).over hTo
   have hTo7 : (upd H6 To (.lst (refs tp ++ [V.ref fr.1]))) To = some (.lst (refs (tp ++ [fr]))) := ak.trans (by unfold refs; rw [map_append]; rfl)
   have hL7 : (upd H6 To (.lst (refs tp ++ [V.ref fr.1]))) L2 = some (.lst (refs lq)) := by rw [aF hLT2]; exact hL5
   have hPl7 : tH (upd H6 To (.lst (refs tp ++ [V.ref fr.1]))) Pl (run nb (kss zs nb) i).flatten := by
    obtain ⟨kvs, e1, e2⟩ := hPl2.same s25
    exact ⟨kvs, by rw [aF hTP.symm]; exact e1, e2⟩
   generalize upd H6 To (.lst (refs tp ++ [V.ref fr.1])) = H7 at sm7 hTo7 hL7 hPl7
   have hfr7 : H7 fr.1 = some (.lst (fr.2.map V.str)) := (hpa.same sm7 fr (hlp fr hfrl)).1
   have hrl := ur g (le_of_lt hlt)
   have hfl12 : fr.2.length <= 12 := (nD g (inl_ fr hfrl)).1
   have hfP : fr.1 ≠ Pl := fun z => by
    have h1 := (hpa fr (hlp fr hfrl)).1
    rw [z, hPl0] at h1
    cases h1
   refine ⟨_, rfl, fr.1, rfl, ⟨_, SqL.of hfr7⟩, ?_⟩
   refine bI (xs := fr.2.map V.str) (fun j σ H' => ∃ v5, σ = [some (.ref R), some (.ref L2), some (.ref To), some (.ref Pl), some (.ref fr.1), v5] /\ au H H' /\ H' To = some (.lst (refs (tp ++ [fr]))) /\ H' L2 = some (.lst (refs lq)) /\ tH H' Pl ((run nb (kss zs nb) i).flatten ++ fr.2.take j)) ⟨_, rfl, sm7, hTo7, hL7, by rw [take_zero, append_nil]; exact hPl7⟩ ?_ ?_ ?_
   ·rintro j σ H' _ ⟨v5, rfl, sj, _⟩
    exact SqL.of (hpa.same sj fr (hlp fr hfrl)).1
   ·rintro j v σ H8 hv ⟨v5, rfl, sj, hT8, hL8, hP8⟩
    obtain ⟨x, ex, rfl⟩ : ∃ x, fr.2[j]? = some x /\ v = V.str x := by
     rw [getElem?_map] at hv
     cases e : fr.2[j]? with
     | none => rw [e] at hv; cases hv
     | some a => rw [e] at hv; cases hv; exact ⟨a, rfl, rfl⟩
    obtain ⟨kvs, hk1, hk2, hP9⟩ := hP8.put x
    have hk3 : kvs.length < 1000 := by
     rw [length_append] at hk2
     have := length_take_le' j fr.2
     omega
    refine ⟨_, rfl, _, rfl, Pl, _, rfl, n8.k (k := .inr x) hk1 (lt_of_lt_of_le hk3 bH), ?_⟩
    rw [append_assoc] at hP9
    refine ⟨_, rfl, sj.over hPl0, by rw [aF hTP]; exact hT8, by rw [aF (kI hL8 hk1 Z7)]; exact hL8, ?_⟩
    rw [take_succ, ex]
    exact hP9
   ·rintro σ H8 ⟨v5, rfl, sj, hT8, hL8, hP8⟩
    rw [length_map, take_length, efr] at hP8
    have efl : (run nb (kss zs nb) (i + 1)).flatten = (run nb (kss zs nb) i).flatten ++ nxt nb (kss zs nb) (run nb (kss zs nb) i) := by
     show (run nb (kss zs nb) i ++ [_]).flatten = _
     rw [List.flatten_append]
     simp
    exact ⟨(kss zs nb).length - (i + 1), Z1, i + 1, L2, _, _, lq, tp ++ [fr], rfl, sj, hlt, rfl, hL8, hlp2, elp2, hLT2, hT8, htp2, etp2, by rw [efl]; exact hP8⟩
  ·have hlp0 : lp = [] := by
    cases lp with
    | nil => rfl
    | cons a b => exact absurd (show (0 : Int) < ((refs (a :: b)).length : Int) by unfold refs; rw [length_map, length_cons]; omega) hneg
   rw [hlp0] at elp
   have hin := hln.mp elp.symm
   refine ⟨_, rfl, q To H2 hTo sm ⟨tp, hTo2, ?_, (hpa.same sm).sub htp⟩⟩
   rw [etp, hin]
   rfl
theorem Cg (T : Tx K mg C) (F : Fun K "knots" "knots" qK f fd) : aM P w K mg base CX0 7 f fd oK (Af C) := by
 obtain ⟨fax, dax, Aax⟩ := T.aax
 have Gax : aM P w K mg base CX0 6 fax dax iD (G3 C) := vI T Aax.F
 obtain ⟨fan, dan, Aan⟩ := T.aan
 have Gan : aM P w K mg base CX0 2 fan dan jy Hc := xH T Aan.F
 obtain ⟨faz, daz, Aaz⟩ := T.aaz
 have Gaz : aM P w K mg base CX0 1 faz daz jW ut := yc T Aaz.F
 obtain ⟨fai, dai, Aai⟩ := T.aai
 have Gai : aM P w K mg base CX0 1 fai dai mj El := xV T Aai.F
 refine F.oq lH fun _ _ _ _ H _ Q E hr h => ?_
 ·obtain ⟨h0, l, ps, rfl, hh, gk, q⟩ := h
  have hr1 : aP 1 _ := hr.mono Z0
  have hr2 : aP 2 _ := hr.mono Z0
  have hr6 : aP 6 _ := hr
  refine ⟨_, QSs.h (ao (aL (i := 1) lH.nd rfl (Or.inl rfl) (aR Aax Gax hr6 (aj (pv 0) aq)))
   (ao (aL (i := 2) lH.nd rfl (Or.inr rfl) fu)
   (ao (bU PassesOwn.never rfl (uP (pv 1)) (aG (i := 3) lH.nd rfl (Or.inl rfl))
   (az (QS.mk (fQ (aP.u1 hr) (pv 2) (pv 3) (aR Aaz Gaz hr1 (aj (pv 1) (aj (pv 3) aq))) rfl))))
   (ao (iG (N := ["address", "led"]) [none, some 2] (i := 4) lH.nd rfl (Or.inl rfl) rfl Z5 (uP (pv 2)) (fun cl C fp s H => (aG (i := 0) (by decide +kernel : (["address", "led"] : List Str).Nodup) rfl (Or.inl rfl))) (fun cl C fp s H => (fB (aJ eN (bW (wj (K := K) rfl) (aR Aai Gai hr1 (aj (pv 1) (aj (pv 0) aq))) aA (fun _ _ => rfl)) (pv 0) (aV _)))) (fun cl C fp s H => (pv 0)))
   (az (aO (aR Aan Gan hr2 (aj (pv 1) (aj (bG (N := ["address", "led"]) [none, some 2] rfl Z5 (aU (pv 4)) (fun cl C fp s H => (aG (i := 0) (by decide +kernel : (["address", "led"] : List Str).Nodup) rfl (Or.inl rfl))) (fun cl C fp s H => eU) (fun cl C fp s H => (aR Aai Gai hr1 (aj (pv 1) (aj (pv 0) aq))))) aq))))))))), ?_⟩
  refine ⟨_, rfl, h0, l, ps, rfl, hh, gk, fun R H1 zs hz1 hz2 hR s1 lk0 => ?_⟩
  have lk : dw H1 R zs (cut zs (jq ps zs)) := lk0.but fun z hz => pK hz
  have g : Gr zs (cut zs (jq ps zs)) := (RG gk hz1).cut
  have q := fun b H' => q b H' zs hz1 hz2
  clear lk0
  generalize cut zs (jq ps zs) = nb at lk g q
  have h12 := g.hi
  refine fun B hB => ?_
  have hB0 : H B = none := s1.free hB
  obtain ⟨kvs, hR1, hkl, hk, hfz⟩ := (lk.same (au.new (o := .dK []) hB)).frz
  refine ⟨_, rfl, R, kvs, rfl, .inr ⟨hR1, fun o => ?_⟩⟩
  have hBR : B ≠ R := fun z => by
   obtain ⟨kvs2, e, _⟩ := lk
   rw [z, e] at hB
   cases hB
  have lf1 := hfz o
  have s2 : au H (upd (upd H1 B (.dK [])) R (.frz o (.dK kvs))) := (s1.put hB).over hR
  have hB2 : (upd (upd H1 B (.dK [])) R (.frz o (.dK kvs))) B = some (.dK []) := by rw [aF hBR]; exact ak
  have hR2 : (upd (upd H1 B (.dK [])) R (.frz o (.dK kvs))) R = some (.frz o (.dK kvs)) := ak
  generalize upd (upd H1 B (.dK [])) R (.frz o (.dK kvs)) = H2 at lf1 s2 hB2 hR2
  have lfm : LkF (without H2 B) R zs nb := by
   obtain ⟨o, kvs, e1, e2, e3⟩ := lf1
   exact ⟨o, kvs, by rw [fJ hBR.symm]; exact e1, e2, fun z hz => by obtain ⟨l, k1, k2⟩ := e3 z hz; exact ⟨l, k1, by rw [fJ (kI k2 hB2 Z7)]; exact k2⟩⟩
  have smm : au H (without H2 B) := au.without s2 hB0
  have hRm : (without H2 B) R = some (.frz o (.dK kvs)) := by rw [fJ hBR.symm]; exact hR2
  have hBm : (without H2 B) B = none := qW _ _
  have s2m : au (without H2 B) H2 := ou _ _
  generalize without H2 B = Hm at lfm smm hBm s2m hRm
  refine Ew (fun i σ H' => ∃ v3, ∃ lf : Str -> List Str, σ = [some (.ref h0), some (.ref R), some (.ref B), v3, none] /\ au Hm H' /\ dw H' B (zs.take i) lf /\ vy (zs.take i) nb lf)
   ⟨_, (fun _ => []), rfl, s2m, ⟨[], hB2, rfl, (fun z hz => by cases hz)⟩, (fun z hz => by cases hz)⟩ ?_ ?_ ?_
  ·rintro i σ H' _ ⟨v3, lf, rfl, sm, _⟩
   exact sm _ _ hRm
  ·rintro i k v σ H' hkv ⟨v3, lf, rfl, sm, lb, hbh⟩
   obtain ⟨z, ez, rfl⟩ := Js hk hkv
   have hz := mem_of_getElem? ez
   have hzi : z ∉ zs.take i := fun hm => by
    obtain ⟨j, hj, ej⟩ := getElem_of_mem hm
    have hji : j < i := lt_of_lt_of_le hj (length_take_le i zs)
    have e2 : zs[j]? = some z := by
     have := getElem?_eq_getElem hj
     rw [ej, getElem?_take] at this
     simpa [hji] using this
    have := (getElem?_inj (List.getElem?_eq_some_iff.mp e2).1 g.nd).mp (e2.trans ez.symm)
    omega
   refine ⟨_, rfl, _, rfl, R, z, zs, nb, rfl, (lfm.same sm).g, g, hz, fun c H3 ys hc s3 hyn hys hym hc3 => ?_⟩
   have e0 : (if z = z then ys else lf z) = ys := if_pos rfl
   have lk3 : dw H3 B (zs.take i) (fun y => if y = z then ys else lf y) := (lb.same s3).but fun y hy => by
    show lf y = if y = z then ys else lf y
    rw [if_neg (fun k : y = z => hzi (k ▸ hy))]
   obtain ⟨kvb, hk1, hk2, lk4⟩ := lk3.more hzi (l := c) (by show H3 c = some (.lst ((if z = z then ys else lf z).map V.str)); rw [e0]; exact hc3)
   have htl : (zs.take i).length <= 12 := le_trans (length_take_le' _ _) h12
   refine ⟨_, rfl, _, rfl, B, _, rfl, n8.k (k := .inr z) hk1 (lt_of_lt_of_le (show kvb.length < 1000 by omega) bH), ?_⟩
   rw [take_succ, ez]
   refine ⟨_, _, rfl, (sm.trans s3).over hBm, lk4, fun y hy => ?_⟩
   by_cases e : y = z
   ·subst e
    show (if y = y then ys else lf y).Nodup /\ ∀ u, u ∈ (if y = y then ys else lf y) ↔ _
    rw [e0]
    exact ⟨hyn, hym⟩
   ·show (if y = z then ys else lf y).Nodup /\ ∀ u, u ∈ (if y = z then ys else lf y) ↔ _
    rw [if_neg e]
    rcases mem_append.mp hy with k | k
    ·exact hbh y k
    ·exact absurd (mem_singleton.mp (by simpa using k)) e
  ·rintro σ H3 ⟨v3, lf, rfl, sm, lb, hbh⟩
   rw [hkl, take_length] at lb hbh
   obtain ⟨kvb, hB3, hkbl, hkb, hfb⟩ := lb.frz
   refine ⟨_, rfl, B, kvb, rfl, .inr ⟨hB3, fun o2 => ?_⟩⟩
   have lfb := hfb o2
   have sm4 : au Hm (upd H3 B (.frz o2 (.dK kvb))) := sm.over hBm
   have hB4 : (upd H3 B (.frz o2 (.dK kvb))) B = some (.frz o2 (.dK kvb)) := ak
   generalize upd H3 B (.frz o2 (.dK kvb)) = H4 at lfb sm4 hB4
   refine rZ (onS (isF zs (Rch nb))) (le_trans (show kvb.length <= 12 by omega) Z0) hB4 (fun v H' Q' hv sv k => ?_) (fun v H' Q' hv sv k => ?_) (fun H5 s5 fl hfl => ?_)
   ·rw [pN hkb] at hv
    obtain ⟨z, hz, rfl⟩ := mem_map.mp hv
    refine ⟨_, rfl, _, rfl, B, z, zs, nb, lf, rfl, lfb.same sv, hbh, h12, hz, fun c H6 hc s6 hc6 => ?_⟩
    obtain ⟨f, hf⟩ := o8 (jk (R := Rch nb) hz)
    have e0 : atI ((kn zs nb z).map V.str) 0 = some (V.str f) := bf (j := 0) (by rw [getElem?_map, <- List.head?_eq_getElem?, hf]; rfl)
    refine ⟨c, _, _, _, rfl, rfl, SqL.of hc6, e0, _, rfl, rfl, _, rfl, ?_⟩
    have : onS (isF zs (Rch nb)) (.str z) = decide (V.str f = V.str z) := by
     show isF zs (Rch nb) z = _
     refine Bool.eq_iff_iff.mpr (jA.trans ?_)
     rw [hf, decide_eq_true_iff]
     exact ⟨fun e => by rw [Option.some.inj e], fun e => by rw [V.str.inj e]⟩
    rw [<- this]
    exact k H6 s6
   ·rw [pN hkb] at hv
    obtain ⟨y, hy, rfl⟩ := mem_map.mp hv
    exact ⟨_, rfl, k H' (au.refl _)⟩
   rw [pN hkb, n6]
   have hfs : ∀ z ∈ zs.filter (isF zs (Rch nb)), z ∈ zs := fun z hz => (mem_filter.mp hz).1
   have hfl12 : (zs.filter (isF zs (Rch nb))).length <= 12 := le_trans (length_filter_le _ _) h12
   have eks : kss zs nb = (zs.filter (isF zs (Rch nb))).map (kn zs nb) := rfl
   have s46 : au H4 (upd H5 fl (.lst ((zs.filter (isF zs (Rch nb))).map V.str))) := s5.put hfl
   have hfl6 : (upd H5 fl (.lst ((zs.filter (isF zs (Rch nb))).map V.str))) fl = some (.lst ((zs.filter (isF zs (Rch nb))).map V.str)) := ak
   generalize upd H5 fl (.lst ((zs.filter (isF zs (Rch nb))).map V.str)) = H6 at s46 hfl6
   generalize zs.filter (isF zs (Rch nb)) = fs at hfs hfl12 eks hfl6
   have sm6 : au H H6 := smm.trans (sm4.trans s46)
   refine ⟨_, rfl, _, rfl, fl, rfl, ⟨_, SqL.of hfl6⟩, ?_⟩
   refine m8 (xs := fs.map V.str) (fun τ => ∃ u, τ = [u, some (.ref B)]) (fun i v H' => ∃ b z, v = .ref b /\ fs[i]? = some z /\ H' b = some (.lst ((kn zs nb z).map V.str)) /\ H b = none)
    (fun i v H' H'' ⟨b, z, e1, e2, e3, e4⟩ s => ⟨b, z, e1, e2, s _ _ e3, e4⟩) (le_trans (show (fs.map V.str).length <= 12 by rw [length_map]; exact hfl12) Z0) (SqL.of hfl6) ⟨_, rfl⟩ (fun i x τ H7 Q' hx s7 hS k => ?_) (fun ys H7 s7 hyl hys d hd => ?_)
   ·obtain ⟨u, rfl⟩ := hS
    obtain ⟨z, ez, rfl⟩ : ∃ z, fs[i]? = some z /\ x = V.str z := by
     rw [getElem?_map] at hx
     cases e : fs[i]? with
     | none => rw [e] at hx; cases hx
     | some a => rw [e] at hx; cases hx; exact ⟨a, rfl, rfl⟩
    have hz := hfs z (mem_of_getElem? ez)
    exact ⟨_, rfl, _, rfl, B, z, zs, nb, lf, rfl, lfb.same (s46.trans s7), hbh, h12, hz, fun c H8 hc s8 hc8 => k _ _ _ ⟨_, rfl⟩ s8 ⟨c, z, rfl, ez, hc8, (sm6.trans s7).free hc⟩⟩
   ·have hks : nH H (upd H7 d (.lst ys)) d (kss zs nb) := by
     rw [length_map] at hyl
     obtain ⟨prs, h1, h2, h3⟩ := Ea (P := fun b k => H7 b = some (.lst (k.map V.str)) /\ H b = none) ys (kss zs nb) (by rw [eks, length_map]; exact hyl) fun i v k e1 e2 => by
      obtain ⟨b, z, rfl, ez, e3, e4⟩ := hys i v e1
      rw [eks, getElem?_map, ez] at e2
      cases e2
      exact ⟨b, rfl, e3, e4⟩
     exact ⟨prs, ak.trans (by rw [h1]), h2, fun pr hp => ⟨(au.new hd) _ _ (h3 pr hp).1, (h3 pr hp).2⟩⟩
    have sm8 : au H6 (upd H7 d (.lst ys)) := s7.put hd
    generalize upd H7 d (.lst ys) = H8 at hks sm8
    exact ⟨H, R, d, zs, nb, rfl, (lfm.same (sm4.trans (s46.trans sm8))).g, g, hks, fun b H9 hb s9 ka => q b H9 ((sm6.trans sm8).free hb) (sm6.trans (sm8.trans s9)) ka⟩
theorem vD (T : Tx K mg C) (F : Fun K "_law_words" "_law_words" iR f fd) : aM P w K mg base CX0 2 f fd qG zK := by
 obtain ⟨faa, daa, Aaa⟩ := T.aaa
 have Gaa : aM P w K mg base CX0 1 faa daa iW lC := jY Aaa.F
 refine F.oq iJ fun _ _ _ _ H _ Q E hr h => ?_
 ·obtain ⟨c, rfl, q⟩ := h
  have hr1 : aP 1 _ := hr
  refine ⟨_, QSs.h (ao (aL (i := 1) iJ.nd rfl (Or.inr rfl) aK)
   (ao (aL (i := 2) iJ.nd rfl (Or.inr rfl) (bG (N := ["_law_k", "_law_letters", "_law_cell_here"]) [none, some 1, some 0] rfl Z5 (fM Z3 T.range (aj aA aq)) (fun cl C fp s H => (aG (i := 0) (by decide +kernel : (["_law_k", "_law_letters", "_law_cell_here"] : List Str).Nodup) rfl (Or.inl rfl))) (fun cl C fp s H => eU) (fun cl C fp s H => (bW Ef (pv 1) (aR Aaa Gaa hr1 (aj (pv 2) (aj (aQ cR aA (pv 0)) (aj aA aq)))) (fun _ _ => rfl)))))
   (ao (bJ (aJ eN (aR Aaa Gaa hr1 (aj (pv 0) (aj aA (aj aA aq)))) aA (aV _)) (az (aO (bG (N := ["_law_k", "_law_base"]) [none, some 2] rfl Z5 (fM Z3 T.range (aj aA aq)) (fun cl C fp s H => (aG (i := 0) (by decide +kernel : (["_law_k", "_law_base"] : List Str).Nodup) rfl (Or.inl rfl))) (fun cl C fp s H => eU) (fun cl C fp s H => (uT (K := K) rfl plainAttrs_str slot_str_join type_str_join (rD rfl) aK (aj (gm (qR (K := K) rfl) (pv 1) lN (dZ (aQ cR (pv 0) aA))) aq)))))) aW)
   (ao (bJ (aJ eN (aR Aaa Gaa hr1 (aj (pv 0) (aj aA (aj aA aq)))) aA (aV _)) (az (aO (Ir (bZ aK (bZ aK (bZ aK (bZ aK (bZ aK (bZ aK (bZ aK (bZ aK Ek))))))))))) aW)
   (ao (aL (i := 3) iJ.nd rfl (Or.inl rfl) (aQ cR aA (aR Aaa Gaa hr1 (aj (pv 0) (aj aA (aj aA aq))))))
   (ao (aL (i := 4) iJ.nd rfl (Or.inl rfl) (aR Aaa Gaa hr1 (aj (pv 0) (aj aA (aj (pv 3) aq)))))
   (ao (aL (i := 5) iJ.nd rfl (Or.inr rfl) (aR Aaa Gaa hr1 (aj (pv 0) (aj aA (aj aA aq)))))
   (ao (aL (i := 6) iJ.nd rfl (Or.inr rfl) (dq plainAttrs_str slot_str_join type_str_join u9 aK (aj (gm nR (pv 2) lN (dZ (pv 4))) aq)))
   (ao (aL (i := 7) iJ.nd rfl (Or.inr rfl) (dq plainAttrs_str slot_str_join type_str_join u9 aK (aj (gm nR (pv 2) (dZ (aQ cR (pv 4) aA)) (dZ (pv 3))) aq)))
   (az (aO (bG (N := ["_law_k", "_law_tail", "_law_head", "_law_letters", "_law_first"]) [none, some 7, some 6, some 1, some 5] rfl Z5 (fM Z3 T.range (aj aA aq)) (fun cl C fp s H => (aG (i := 0) (by decide +kernel : (["_law_k", "_law_tail", "_law_head", "_law_letters", "_law_first"] : List Str).Nodup) rfl (Or.inl rfl))) (fun cl C fp s H => eU) (fun cl C fp s H => (aQ bw (aQ bw (pv 2) (bW Ef (pv 3) (aQ jd (aQ cR (pv 4) (pv 0)) aA) (fun _ _ => rfl))) (pv 1))))))))))))))), ?_⟩
  refine ⟨_, rfl, Z0, Z0, lK (fun i v H' => ∃ b : Int, v = V.str (lt1 b) /\ 0 <= b /\ b < 26) (fun i v H' H'' h _ => h) (by show 8 <= sizeLine; decide) (fun i H' Q' hi sm k' => ?_) (fun xs H1 s1 hl hx B hB => ?_)⟩
  ·have hi' : i < 8 := hi
   exact ⟨_, rfl, _, rfl, _, rfl, _, _, rfl, rfl, c, 8 + (0 + (i : Int)), 26, rfl, Z1, Z1, Z0, fun H5 s5 => ⟨letters, _, _, rfl, rfl, Z4, lat (fc c _ Z0) (gb c _ Z0), k' _ H5 s5 ⟨_, rfl, fc c _ Z0, gb c _ Z0⟩⟩⟩
  obtain ⟨bs, hbl, rfl, hbr⟩ := Ij hx
  have hb8 : bs.length = 8 := by rw [length_map, length_map] at hl; exact hl
  have s02 : au H (upd H1 B (.lst ((bs.map lt1).map V.str))) := s1.put hB
  have hB2 : (upd H1 B (.lst ((bs.map lt1).map V.str))) B = some (.lst ((bs.map lt1).map V.str)) := ak
  generalize upd H1 B (.lst ((bs.map lt1).map V.str)) = H2 at s02 hB2
  refine ⟨_, rfl, c, 2, 4, rfl, Z0, Z0, Z0, fun H3 s3 => ⟨rfl, _, rfl, gj (fun _ => ?_) (fun _ => ?_)⟩⟩
  ·refine ⟨_, rfl, Z0, Z0, lK (fun i v H' => v = V.str (lD (bs.take (i + 1)))) (fun i v H' H'' h _ => h) (by show 8 <= sizeLine; decide) (fun i H' Q' hi sm k' => ?_) (fun xs H4 s4 hl4 hx4 l hl0 => ?_)⟩
   ·have hi' : i < 8 := hi
    have ec : gP ((bs.map lt1).map V.str) none (some (0 + (i : Int) + 1)) = ((bs.take (i + 1)).map lt1).map V.str := by
     rw [nO _ Z1, show (0 + (i : Int) + 1).toNat = i + 1 from by omega]
     simp only [map_take]
    have h8 : (bs.take (i + 1)).length <= 8 := by rw [length_take]; omega
    exact ⟨rfl, _, rfl, _, rfl, _, _, rfl, rfl, _, rfl, B, _, rfl, SqL.of ((s3.trans sm) _ _ hB2), fun w hw => ⟨_, w, (bs.take (i + 1)).map lt1, rfl, rfl, .inl (SqL.of (ak.trans (by rw [ec]))), rH h8, k' _ _ (au.new hw) (congrArg V.str (qX _))⟩⟩
   ·obtain rfl : xs = (wQ bs).map V.str := (Ft (fun i => V.str (lD (bs.take (i + 1)))) hl4 hx4).trans (by unfold wQ; rw [map_map]; rfl)
    exact q l _ (wQ bs) ((s02.trans (s3.trans s4)).free hl0) ((s02.trans (s3.trans s4)).put hl0) (by unfold wQ; rw [length_map, length_range]) (Gp hbr hb8) ak
  refine ⟨_, rfl, c, 2, 4, rfl, Z0, Z0, Z0, fun H4 s4 => ⟨rfl, _, rfl, gj (fun _ => ?_) (fun _ => ?_)⟩⟩
  ·exact ⟨by show 8 <= sizeLine; decide, fun l hl0 => q l _ HR ((s02.trans (s3.trans s4)).free hl0) ((s02.trans (s3.trans s4)).put hl0) rfl GR ak⟩
  have s04 := s02.trans (s3.trans s4)
  have z1 := fc c 3 (m := 8) Z0
  have z2 := gb c 3 (m := 8) Z0
  refine ⟨_, rfl, c, 3, 8, rfl, Z0, Z0, Z0, fun H5 s5 => ⟨_, _, rfl, rfl, ?_⟩⟩
  generalize pick c 3 8 = sz at z1 z2
  have o1 := fc c 4 (m := 1 + sz) Z1
  have o2 := gb c 4 (m := 1 + sz) Z1
  refine ⟨_, rfl, _, rfl, c, 4, 1 + sz, rfl, Z0, Z0, Z1, fun H6 s6 => ?_⟩
  generalize pick c 4 (1 + sz) = at_ at o1 o2
  have f1 := fc c 5 (m := 26) Z0
  refine ⟨_, rfl, c, 5, 26, rfl, Z0, Z0, Z0, fun H7 s7 => ?_⟩
  generalize pick c 5 26 = fi at f1
  have s27 : au H2 H7 := s3.trans (s4.trans (s5.trans (s6.trans s7)))
  have ha8 : (bs.take at_.toNat).length <= 8 := by rw [length_take]; omega
  have ec1 : gP ((bs.map lt1).map V.str) none (some at_) = ((bs.take at_.toNat).map lt1).map V.str := by rw [nO _ o1]; simp only [map_take]
  refine ⟨rfl, _, rfl, _, rfl, _, rfl, B, _, rfl, SqL.of (s27 _ _ hB2), fun w hw => ⟨_, w, (bs.take at_.toNat).map lt1, rfl, rfl, .inl (SqL.of (ak.trans (by rw [ec1]))), rH ha8, ?_⟩⟩
  have s28 : au H2 (upd H7 w (.lst (gP ((bs.map lt1).map V.str) none (some at_)))) := s27.put hw
  generalize upd H7 w (.lst (gP ((bs.map lt1).map V.str) none (some at_))) = H8 at s28
  have ew1 := qX (bs.take at_.toNat)
  generalize Txt.join ("" : Str) ((bs.take at_.toNat).map lt1) = hd at ew1
  subst ew1
  have hd8 : ((bs.drop (at_ + 1).toNat).take ((1 + sz).toNat - (at_ + 1).toNat)).length <= (1 + sz).toNat - (at_ + 1).toNat := length_take_le _ _
  have ec2 : gP ((bs.map lt1).map V.str) (some (at_ + 1)) (some (1 + sz)) = (((bs.drop (at_ + 1).toNat).take ((1 + sz).toNat - (at_ + 1).toNat)).map lt1).map V.str := by
   rw [FP _ Z1 Z1 (by rw [length_map]; omega) (by rw [length_map]; omega)]
   simp only [map_take, List.map_drop]
  refine ⟨rfl, _, rfl, _, rfl, _, _, rfl, rfl, _, rfl, _, rfl, _, rfl, B, _, rfl, SqL.of (s28 _ _ hB2), fun w2 hw2 => ⟨_, w2, ((bs.drop (at_ + 1).toNat).take ((1 + sz).toNat - (at_ + 1).toNat)).map lt1, rfl, rfl, .inl (SqL.of (ak.trans (by rw [ec2]))), rH Z1, ?_⟩⟩
  have s29 : au H2 (upd H8 w2 (.lst (gP ((bs.map lt1).map V.str) (some (at_ + 1)) (some (1 + sz))))) := s28.put hw2
  generalize upd H8 w2 (.lst (gP ((bs.map lt1).map V.str) (some (at_ + 1)) (some (1 + sz)))) = H9 at s29
  have ew2 := qX ((bs.drop (at_ + 1).toNat).take ((1 + sz).toNat - (at_ + 1).toNat))
  generalize Txt.join ("" : Str) (((bs.drop (at_ + 1).toNat).take ((1 + sz).toNat - (at_ + 1).toNat)).map lt1) = tl at ew2
  subst ew2
  have hdr : vd ((bs.drop (at_ + 1).toNat).take ((1 + sz).toNat - (at_ + 1).toNat)) := fun k hk => hbr k (List.mem_of_mem_drop (mem_of_mem_take hk))
  generalize (bs.drop (at_ + 1).toNat).take ((1 + sz).toNat - (at_ + 1).toNat) = ds at hd8 hdr
  have hal : (bs.take at_.toNat).length <= at_.toNat := length_take_le _ _
  have har := hbr.take at_.toNat
  generalize bs.take at_.toNat = as at hal har
  refine ⟨_, rfl, Z0, Z0, lK (fun i v H' => ∃ z, v = V.str z /\ cQ z) (fun i v H' H'' h _ => h) (by show 8 <= sizeLine; decide) (fun i H' Q' hi sm k' => ?_) (fun xs H10 s10 hl10 hx10 l hl0 => ?_)⟩
  ·have la : (lD as).length <= 8 := by rw [vA]; omega
   have ld : (lD ds).length <= 8 := by rw [vA]; omega
   have m1 : 0 <= (fi + (0 + (i : Int))) % 26 := by omega
   have m2 : (fi + (0 + (i : Int))) % 26 < 26 := by omega
   exact ⟨_, rfl, _, rfl, _, rfl, _, rfl, _, _, rfl, rfl, _, _, rfl, rfl, by show (0 : Int) < 26; decide, letters, _, _, rfl, rfl, Z4, lat m1 m2, _, _, rfl, rfl, abS la (le_refl 1), _, rfl, _, _, rfl, rfl, abS (alS la (le_refl 1)) ld, k' _ H' (au.refl _) ⟨_, rfl, Ip har hdr m1 m2 Z1⟩⟩
  ·obtain ⟨ws, hwl, rfl, hwn⟩ := BV hx10
   have h8 : ws.length = 8 := by rw [length_map] at hl10; exact hl10
   exact q l _ ws ((s02.trans (s29.trans s10)).free hl0) ((s02.trans (s29.trans s10)).put hl0) h8 hwn ak
theorem pO (T : Tx K mg C) (F : Fun K "_law_addresses" "_law_addresses" dD f fd) : aM P w K mg base CX0 2 f fd iC DX := by
 obtain ⟨faa, daa, Aaa⟩ := T.aaa
 have Gaa : aM P w K mg base CX0 1 faa daa iW lC := jY Aaa.F
 refine F.oq cX fun _ _ _ _ H _ Q E hr h => ?_
 ·obtain ⟨c, n, lw, ws, rfl, n1, n12, hlw, hw8, hwn, q⟩ := h
  have hr1 : aP 1 _ := hr
  refine ⟨_, QSs.h (ao (aL (i := 3) cX.nd rfl (Or.inl rfl) (bz aq))
   (ao (bU PassesOwn.never rfl (fM Z3 T.range (aj (pv 1) aq)) (aG (i := 4) cX.nd rfl (Or.inl rfl))
   (ao (aL (i := 5) cX.nd rfl (Or.inl rfl) (aQ mR (bz (aj aK aq)) (bG (N := ["_law_one"]) [none] rfl Z5 (aU (pv 3)) (fun cl C fp s H => (aG (i := 0) (by decide +kernel : (["_law_one"] : List Str).Nodup) rfl (Or.inl rfl))) (fun cl C fp s H => (fB (aJ tU (uT (K := K) rfl plainAttrs_str PySem.F.slot_str_count PySem.F.type_str_count wL (pv 0) (aj aK aq)) aA (aV _)))) (fun cl C fp s H => (pv 0)))))
   (ao (aL (i := 6) cX.nd rfl (Or.inl rfl) (bW bC (pv 5) (aR Aaa Gaa hr1 (aj (pv 0) (aj (aQ nC aA (pv 4)) (aj (aX aY Z3 T.len boot_len (aj (pv 5) aq)) aq)))) (fun _ _ => rfl)))
   (ao (aL (i := 7) cX.nd rfl (Or.inl rfl) (bW bC (pv 2) (aR Aaa Gaa hr1 (aj (pv 0) (aj (aQ cR (aQ nC aA (pv 4)) aA) (aj aA aq)))) (fun _ _ => rfl)))
   (ao (bJ (aJ Ae (pv 6) aK (aV _)) (az (aL (i := 7) cX.nd rfl (Or.inl rfl) (aQ bw (aQ bw (pv 6) aK) (pv 7)))) aW)
   (az (bJ (aJ gG (pv 7) (pv 3) Z3) (az (bY (dq plainAttrs_list PySem.F.slot_list_append PySem.F.type_list_append dj (pv 3) (aj (pv 7) aq)))) aW)))))))
   (ao (bJ (aJ eN (aR Aaa Gaa hr1 (aj (pv 0) (aj aA (aj aA aq)))) aA (aV _)) (az (bY (yw plainAttrs_list PySem.F.slot_list_reverse PySem.F.type_list_reverse qQ (pv 3)))) aW)
   (az (aO (pv 3)))))), ?_⟩
  refine ⟨by show 0 <= sizeLine; decide, fun F hF => ?_⟩
  have s1 : au H (upd H F (.lst [])) := au.new hF
  have hF1 : (upd H F (.lst [])) F = some (.lst ((([] : List (List Str)).map dotted).map V.str)) := ak
  generalize upd H F (.lst []) = H1 at s1 hF1
  have hfl : ∀ zs : List Str, (zs.map V.str).all cW = true := dB
  refine ⟨_, rfl, _, rfl, Z1, Z1, ?_⟩
  refine lY (fun i σ H2 => ∃ v4 v5 v6 v7, ∃ as : List (List Str), σ = [some (.int c), some (.int n), some (.ref lw), some (.ref F), v4, v5, v6, v7] /\ au H H2 /\ H2 F = some (.lst ((as.map dotted).map V.str)) /\ bL as /\ as.length <= i /\ (0 < i -> as ≠ []))
   ⟨none, none, none, none, [], rfl, s1, hF1, ⟨Z0, (fun a ha => by cases ha), List.Pairwise.nil, (fun a ha => by cases ha)⟩, le_refl _, fun z => absurd z (lt_irrefl _)⟩ ?_ ?_
  ·rintro i σ H2 hi ⟨v4, v5, v6, v7, as, rfl, sm, hF2, g, hal, hane⟩
   have hi12 : i < 12 := by omega
   refine ⟨by show 1 <= sizeLine; decide, fun b hb => ?_⟩
   have sb : au H2 (upd H2 b (.lst [V.str ""])) := au.new hb
   have hb3 : (upd H2 b (.lst [V.str ""])) b = some (.lst [V.str ""]) := ak
   generalize upd H2 b (.lst [V.str ""]) = H3 at sb hb3
   have hlen : ((as.map dotted).map V.str).length <= 12 := by rw [length_map, length_map]; omega
   refine ⟨_, rfl, F, rfl, ⟨_, SqL.of (sb _ _ hF2)⟩, bD (xs := (as.map dotted).map V.str) dX (le_trans hlen Z0) (SqL.of (sb _ _ hF2)) (fun x H' Q' hx sm2 k => ?_) (fun x H' Q' hx sm2 k => ?_) (fun H4 s4 d hd => ?_)⟩
   ·obtain ⟨z, _, rfl⟩ := mem_map.mp hx
    exact ⟨_, rfl, rfl, _, _, rfl, rfl, _, _, rfl, rfl, _, rfl, k H' (au.refl _)⟩
   ·exact ⟨_, rfl, k H' (au.refl _)⟩
   have hflt : (((as.map dotted).map V.str).filter dX).length <= 12 := le_trans (length_filter_le _ _) hlen
   have hbd : b ≠ d := (aD (s4 _ _ hb3) hd)
   refine ⟨b, d, _, _, rfl, rfl, by rw [aF hbd]; exact s4 _ _ hb3, ak, le_trans (show 1 + _ <= 1 + 12 from Nat.add_le_add_left hflt 1) Z0, fun e he => ?_⟩
   have s5 : au H2 (upd (upd H4 d (.lst (((as.map dotted).map V.str).filter dX))) e (.lst ([V.str ""] ++ ((as.map dotted).map V.str).filter dX))) := ((sb.trans s4).put hd).put he
   have he5 : (upd (upd H4 d (.lst (((as.map dotted).map V.str).filter dX))) e (.lst ([V.str ""] ++ ((as.map dotted).map V.str).filter dX))) e = some (.lst ((("" : Str) :: (as.map dotted).filter fun z => dX (.str z)).map V.str)) := ak.trans (by rw [c7]; rfl)
   generalize upd (upd H4 d (.lst (((as.map dotted).map V.str).filter dX))) e (.lst ([V.str ""] ++ ((as.map dotted).map V.str).filter dX)) = H5 at s5 he5
   have hz0 : ∀ z ∈ ("" : Str) :: (as.map dotted).filter (fun z => dX (.str z)), z = "" \/ ∃ a ∈ as, z = dotted a /\ a.length <= 2 := fun z hz => by
    rcases mem_cons.mp hz with rfl | hz
    ·exact .inl rfl
    ·have hm : V.str z ∈ ((as.map dotted).map V.str).filter dX := by rw [c7]; exact mem_map.mpr ⟨z, hz, rfl⟩
     obtain ⟨a, ha, ea, hl⟩ := Ez g hm
     exact .inr ⟨a, ha, V.str.inj ea, hl⟩
   have hne0 : (("" : Str) :: (as.map dotted).filter fun z => dX (.str z)) ≠ [] := by simp
   generalize (("" : Str) :: (as.map dotted).filter fun z => dX (.str z)) = zs at he5 hz0 hne0
   have hzl : 0 < (zs.length : Int) := by have := length_pos_iff.mpr hne0; omega
   obtain ⟨z, hz, eat⟩ := dO (c := c) (k := 2 * (0 + (i : Int))) hne0
   refine ⟨_, rfl, _, rfl, _, rfl, _, _, rfl, rfl, .inl ⟨Z0, Z0⟩, _, rfl, e, _, rfl, .inl (SqL.of he5), c, 2 * (0 + (i : Int)), zs.length, (by rw [length_map]; rfl), Z1, Z1, hzl, fun H6 s6 => ⟨e, _, _, _, rfl, rfl, SqL.of (s6 _ _ he5), eat, ?_⟩⟩
   have hw0 : ws ≠ [] := fun z => by rw [z] at hw8; cases hw8
   obtain ⟨w, hw, eaw⟩ := dO (c := c) (k := 2 * (0 + (i : Int)) + 1) hw0
   rw [hw8] at eaw
   have s26 : au H2 H6 := s5.trans s6
   refine ⟨_, rfl, _, rfl, _, rfl, _, _, rfl, rfl, .inl ⟨Z0, Z0⟩, _, _, rfl, rfl, c, 2 * (0 + (i : Int)) + 1, 8, rfl, Z1, Z1, Z0, fun H7 s7 => ⟨lw, _, _, _, rfl, rfl, SqL.of ((sm.trans (s26.trans s7)) _ _ hlw), eaw, ?_⟩⟩
   have s27 : au H2 H7 := s26.trans s7
   have nw := hwn w hw
   have hF7 := s27 _ _ hF2
   by_cases hz1 : z = ""
   ·refine ⟨_, rfl, rfl, _, rfl, vR (decide_eq_true (congrArg V.str hz1)) ?_⟩
    have ga : cO [w] := ⟨Z2, (by show 1 <= 3; decide), fun y hy => by rw [mem_singleton.mp hy]; exact nw⟩
    have ew : w = dotted [w] := (il w).symm
    by_cases hin : inV (V.str w) ((as.map dotted).map V.str) = true
    ·refine ⟨_, rfl, _, rfl, F, _, rfl, .inl (SqL.of hF7), rfl, hfl _, _, rfl, bj (by rw [hin]; rfl) ?_⟩
     refine ⟨_, _, _, _, as, rfl, sm.trans s27, hF7, g, Z1, fun _ z => ?_⟩
     rw [z] at hin
     exact absurd (show false = true from hin) Z0
    ·have hin2 : inV (V.str w) ((as.map dotted).map V.str) = false := by simpa using hin
     refine ⟨_, rfl, _, rfl, F, _, rfl, .inl (SqL.of hF7), rfl, hfl _, _, rfl, cU (by rw [hin2]; rfl) ?_⟩
     refine ⟨_, rfl, .inl ⟨rfl, _, SqL.of hF7⟩, _, rfl, F, _, _, rfl, rfl, hF7, lt_of_lt_of_le (show ((as.map dotted).map V.str).length < 1000 by omega) bH, ?_⟩
     refine ⟨_, _, _, _, as ++ [[w]], rfl, (sm.trans s27).over hF, ak.trans (by rw [map_append, map_append]; show some (HO.lst (_ ++ [V.str w])) = some (HO.lst (_ ++ [V.str (dotted [w])])); rw [<- ew]), g.snoc Z1 ga (fun hm => hin (by rw [ew]; exact o9 (mem_map.mpr ⟨_, hm, rfl⟩))) (.inl rfl), by rw [length_append]; show as.length + 1 <= _; omega, fun _ => by simp⟩
   ·obtain ⟨p, hp, rfl, hp2⟩ := (hz0 z hz).resolve_left hz1
    have gp := g.ok p hp
    have nwl := nw.hi
    have h36 := gp.len
    refine ⟨_, rfl, rfl, _, rfl, yz (decide_eq_false fun y => hz1 (V.str.inj y)) ?_⟩
    refine ⟨_, rfl, _, _, rfl, rfl, abS h36 km, _, rfl, _, _, rfl, rfl, abS (alS h36 km) nwl, ?_⟩
    have ew : dotted p ++ "." ++ w = dotted (p ++ [w]) := pU gp.lo
    have ga : cO (p ++ [w]) := ⟨Z2, by rw [length_append]; show p.length + 1 <= 3; omega, fun y hy => by
     rcases mem_append.mp hy with hy | hy
     ·exact gp.nm y hy
     ·rw [mem_singleton.mp hy]; exact nw⟩
    by_cases hin : inV (V.str (dotted p ++ "." ++ w)) ((as.map dotted).map V.str) = true
    ·refine ⟨_, rfl, _, rfl, F, _, rfl, .inl (SqL.of hF7), rfl, hfl _, _, rfl, bj (by rw [hin]; rfl) ?_⟩
     refine ⟨_, _, _, _, as, rfl, sm.trans s27, hF7, g, Z1, fun _ z => ?_⟩
     rw [z] at hp
     cases hp
    ·have hin2 : inV (V.str (dotted p ++ "." ++ w)) ((as.map dotted).map V.str) = false := by simpa using hin
     refine ⟨_, rfl, _, rfl, F, _, rfl, .inl (SqL.of hF7), rfl, hfl _, _, rfl, cU (by rw [hin2]; rfl) ?_⟩
     refine ⟨_, rfl, .inl ⟨rfl, _, SqL.of hF7⟩, _, rfl, F, _, _, rfl, rfl, hF7, lt_of_lt_of_le (show ((as.map dotted).map V.str).length < 1000 by omega) bH, ?_⟩
     refine ⟨_, _, _, _, as ++ [p ++ [w]], rfl, (sm.trans s27).over hF, ak.trans (by rw [map_append, map_append]; show some (HO.lst (_ ++ [V.str (dotted p ++ "." ++ w)])) = some (HO.lst (_ ++ [V.str (dotted (p ++ [w]))])); rw [<- ew]), g.snoc Z1 ga (fun hm => hin (by rw [ew]; exact o9 (mem_map.mpr ⟨_, hm, rfl⟩))) (.inr (by rw [List.dropLast_concat]; exact hp)), by rw [length_append]; show as.length + 1 <= _; omega, fun _ => by simp⟩
  ·rintro σ H2 ⟨v4, v5, v6, v7, as, rfl, sm, hF2, g, hal, hane⟩
   have hne := hane Z1
   refine ⟨_, rfl, c, 30, 3, rfl, Z0, Z0, Z0, fun H3 s3 => ⟨rfl, _, rfl, gj (fun _ => ?_) (fun _ => ?_)⟩⟩
   ·refine ⟨_, rfl, .inl ⟨rfl, _, SqL.of (s3 _ _ hF2)⟩, F, _, rfl, rfl, s3 _ _ hF2, ?_⟩
    exact ⟨_, rfl, q F _ as.reverse hF ((sm.trans s3).over hF) (by simpa using hne) g.rev (ak.trans (by rw [map_reverse, map_reverse]))⟩
   ·exact ⟨_, rfl, q F _ as hF (sm.trans s3) hne g (s3 _ _ hF2)⟩
theorem uK (T : Tx K mg C) (F : Fun K "_law_asked" "_law_asked" iV f fd) : aM P w K mg base CX0 2 f fd qx zO := by
 obtain ⟨faa, daa, Aaa⟩ := T.aaa
 have Gaa : aM P w K mg base CX0 1 faa daa iW lC := jY Aaa.F
 refine F.oq uZ fun _ _ _ _ H _ Q E hr h => ?_
 ·obtain ⟨c, la, lw, as, ws, rfl, hla, hne, g, hlw, hw8, hwn, q⟩ := h
  have hr1 : aP 1 _ := hr
  refine ⟨_, QSs.h (ao (aL (i := 3) uZ.nd rfl (Or.inl rfl) (bW bC (pv 1) (aR Aaa Gaa hr1 (aj (pv 0) (aj aA (aj (aX aY Z3 T.len boot_len (aj (pv 1) aq)) aq)))) (fun _ _ => rfl)))
   (ao (aL (i := 4) uZ.nd rfl (Or.inl rfl) (bW bC (pv 2) (aR Aaa Gaa hr1 (aj (pv 0) (aj aA (aj aA aq)))) (fun _ _ => rfl)))
   (ao (bJ (aJ zu (aR Aaa Gaa hr1 (aj (pv 0) (aj aA (aj aA aq)))) aA (aV _)) (az (aO (pv 3))) aW)
   (ao (bJ (aJ tU (dq plainAttrs_str PySem.F.slot_str_count PySem.F.type_str_count wL (pv 3) (aj aK aq)) aA (aV _)) (az (aO (aQ bw (aQ bw (pv 3) aK) (pv 4)))) aW)
   (az (aO (pv 4))))))), ?_⟩
  have hne2 : as.map dotted ≠ [] := by simpa using hne
  have hzl : 0 < ((as.map dotted).length : Int) := by have := length_pos_iff.mpr hne2; omega
  obtain ⟨z, hz, eat⟩ := dO (c := c) (k := 2) hne2
  obtain ⟨a, ha, rfl⟩ := mem_map.mp hz
  have ga := g.ok a ha
  refine ⟨_, rfl, _, rfl, _, rfl, la, _, rfl, .inl (SqL.of hla), c, 2, (as.map dotted).length, (show [V.int c, V.int 2, V.int ((as.map dotted).map V.str).length] = [V.int c, V.int 2, V.int (as.map dotted).length] by rw [length_map (f := V.str)]), Z0, Z0, hzl, fun H1 s1 => ⟨la, _, _, _, rfl, rfl, SqL.of (s1 _ _ hla), eat, ?_⟩⟩
  have hw0 : ws ≠ [] := fun z => by rw [z] at hw8; cases hw8
  obtain ⟨w, hw, eaw⟩ := dO (c := c) (k := 3) hw0
  rw [hw8] at eaw
  have nw := hwn w hw
  refine ⟨_, rfl, _, rfl, c, 3, 8, rfl, Z0, Z0, Z0, fun H2 s2 => ⟨lw, _, _, _, rfl, rfl, SqL.of ((s1.trans s2) _ _ hlw), eaw, ?_⟩⟩
  refine ⟨_, rfl, c, 4, 5, rfl, Z0, Z0, Z0, fun H3 s3 => ⟨_, _, rfl, rfl, _, rfl, gj (fun _ => ?_) (fun _ => ?_)⟩⟩
  ·exact ⟨_, rfl, q a ga H3 (s1.trans (s2.trans s3))⟩
  have s03 := s1.trans (s2.trans s3)
  refine ⟨_, rfl, rfl, _, _, rfl, rfl, _, _, rfl, rfl, _, rfl, gj (fun h2 => ?_) (fun _ => ?_)⟩
  ·rw [CG ga] at h2
   have h36 := ga.len
   refine ⟨_, rfl, _, _, rfl, rfl, abS h36 km, _, rfl, _, _, rfl, rfl, abS (alS h36 km) nw.hi, ?_⟩
   have q2 := q (a ++ [w]) (Bw ga Z1 nw) H3 s03
   rw [<- pU ga.lo] at q2
   exact q2
  ·have q2 := q [w] (zA nw) H3 s03
   rw [il] at q2
   exact ⟨_, rfl, q2⟩
theorem vM (T : Tx K mg C) (F : Fun K "_law_drawn" "_law_drawn" iw f fd) : aM P w K mg base CX0 3 f fd qI yU := by
 obtain ⟨faa, daa, Aaa⟩ := T.aaa
 have Gaa : aM P w K mg base CX0 1 faa daa iW lC := jY Aaa.F
 obtain ⟨fa1, da1, Aa1⟩ := T.aa1
 have Ga1 : aM P w K mg base CX0 2 fa1 da1 qx zO := uK T Aa1.F
 refine F.oq jO fun _ _ _ _ H _ Q E hr h => ?_
 ·obtain ⟨c, lk, la, lw, ks, as, ws, rfl, hlk, hla, hne, g, hlw, hw8, hwn, q⟩ := h
  have hr1 : aP 1 _ := hr.mono Z0
  have hr2 : aP 2 _ := hr
  refine ⟨_, QSs.h (ao (Gj (i := 4) jO.nd rfl (Or.inl rfl) (MT bC (Gb (bZ aK (bZ aK (bZ aK (bZ aK (bZ aK (bZ aK (bZ aK (bZ aK Ek))))))))) (aR Aaa Gaa hr1 (aj (pv 0) (aj aA (aj aA aq)))) (fun _ _ => rfl)))
   (ao (iG (N := ["_law_name", "_law_known"]) [none, some 1] (i := 5) jO.nd rfl (Or.inl rfl) rfl Z5 (aU (pv 3)) (fun cl C fp s H => (aG (i := 0) (by decide +kernel : (["_law_name", "_law_known"] : List Str).Nodup) rfl (Or.inl rfl))) (fun cl C fp s H => (fB (aJ (pM (K := K) rfl) (pv 0) (pv 1) Z3))) (fun cl C fp s H => (pv 0)))
   (ao (bJ (aJ (Cv (K := K) rfl hr.units) (pv 5) (bz aq) (aV _)) (az (aO (iu (aj aK (aj aK (aj aK (aj aK aq))))))) aW)
   (ao (aL (i := 6) jO.nd rfl (Or.inl rfl) (bW bC (pv 5) (aR Aaa Gaa hr1 (aj (pv 0) (aj aA (aj (aX aY Z3 T.len boot_len (aj (pv 5) aq)) aq)))) (fun _ _ => rfl)))
   (ao (bJ (aJ eN (pv 4) aK (aV _)) (az (aL (i := 6) jO.nd rfl (Or.inl rfl) aK)) aW)
   (ao (iG (N := ["_law_one"]) [none] (i := 7) jO.nd rfl (Or.inl rfl) rfl Z5 (aU (pv 2)) (fun cl C fp s H => (aG (i := 0) (by decide +kernel : (["_law_one"] : List Str).Nodup) rfl (Or.inl rfl))) (fun cl C fp s H => (fB (aJ Av aK (pv 0) Z3))) (fun cl C fp s H => (pv 0)))
   (ao (bJ (PW.pt (mV (aJ eN (pv 4) aK (aV _)) (mV (aJ (De (K := K) rfl hr.units) (pv 7) (bz aq) (aV _)) (lO (aJ eN (aR Aaa Gaa hr1 (aj (pv 0) (aj aA (aj aA aq)))) aA (aV _)))))) (ao (aL (i := 8) jO.nd rfl (Or.inl rfl) (bW bC (pv 7) (aR Aaa Gaa hr1 (aj (pv 0) (aj aA (aj (aX aY Z3 T.len boot_len (aj (pv 7) aq)) aq)))) (fun _ _ => rfl)))
   (az (aO (iu (aj (pv 4) (aj (pv 6) (aj (bW xY (dq plainAttrs_str PySem.F.slot_str_rpartition PySem.F.type_str_rpartition xj (pv 8) (aj aK aq)) aA (fun _ _ => rfl)) (aj (bW bC (dq plainAttrs_str slot_str_split type_str_split oR (pv 8) (aj aK aq)) (xx rM aA) (fun _ _ => rfl)) aq)))))))) aW)
   (az (aO (iu (aj (pv 4) (aj (pv 6) (aj (aR Aa1 Ga1 hr2 (aj (pv 0) (aj (pv 2) (aj (pv 3) aq)))) (aj (bW bC (pv 3) (aR Aaa Gaa hr1 (aj (pv 0) (aj aA (aj aA aq)))) (fun _ _ => rfl)) aq)))))))))))))), ?_⟩
  have hfl : ∀ zs : List Str, (zs.map V.str).all cW = true := dB
  have hw0 : ws ≠ [] := fun z => by rw [z] at hw8; cases hw8
  refine ⟨by show 8 <= sizeLine; decide, fun b hb => ?_⟩
  obtain ⟨so, hso, eso⟩ := Dt (fc c 1 (m := 8) Z0) (gb c 1 (m := 8) Z0)
  refine ⟨_, rfl, c, 1, 8, rfl, Z0, Z0, Z0, fun H1 s1 => ⟨b, Hh, _, _, rfl, rfl, SqL.of (s1 _ _ ak), eso, ?_⟩⟩
  have s01 : au H H1 := (au.new hb).trans s1
  clear s1 eso
  refine ⟨_, rfl, lw, rfl, ⟨_, SqL.of (s01 _ _ hlw)⟩, bD (xs := ws.map V.str) (fun v => !inV v (ks.map V.str)) (le_trans (show (ws.map V.str).length <= 8 by rw [length_map]; omega) Z0) (SqL.of (s01 _ _ hlw)) (fun x H' Q' hx sm k => ?_) (fun x H' Q' hx sm k => ?_) (fun H2 s2 fr hfr => ?_)⟩
  ·obtain ⟨s, _, rfl⟩ := mem_map.mp hx
   exact ⟨_, rfl, _, rfl, lk, _, rfl, .inl (SqL.of ((s01.trans sm) _ _ hlk)), rfl, hfl _, _, rfl, k H' (au.refl _)⟩
  ·exact ⟨_, rfl, k H' (au.refl _)⟩
  have s03 : au H (upd H2 fr (.lst ((ws.map V.str).filter fun v => !inV v (ks.map V.str)))) := (s01.trans s2).put hfr
  have hf3 : (upd H2 fr (.lst ((ws.map V.str).filter fun v => !inV v (ks.map V.str)))) fr = some (.lst ((ws.filter fun w => !inV (.str w) (ks.map V.str)).map V.str)) := ak.trans (by rw [c7])
  generalize upd H2 fr (.lst ((ws.map V.str).filter fun v => !inV v (ks.map V.str))) = H3 at s03 hf3
  have hfree : ∀ z ∈ ws.filter (fun w => !inV (.str w) (ks.map V.str)), z ∈ ws /\ z ∉ ks := fun z hz => by
   obtain ⟨h1, h2⟩ := mem_filter.mp hz
   refine ⟨h1, fun hk => ?_⟩
   rw [o9 (mem_map.mpr ⟨z, hk, rfl⟩)] at h2
   cases h2
  generalize ws.filter (fun w => !inV (.str w) (ks.map V.str)) = fs at hf3 hfree
  refine ⟨_, rfl, by show 0 <= sizeLine; decide, fun e he => ⟨fr, e, fs.map V.str, rfl, rfl, SqL.of ((au.new he) _ _ hf3), SqL.of ak, _, rfl, ?_⟩⟩
  have s04 : au H (upd H3 e (.lst [])) := s03.put he
  have hf4 : (upd H3 e (.lst [])) fr = some (.lst (fs.map V.str)) := (au.new he) _ _ hf3
  generalize upd H3 e (.lst []) = H4 at s04 hf4
  by_cases hfe : fs = []
  ·subst hfe
   refine cU rfl ?_
   exact ⟨by show 4 <= sizeLine; decide, fun p hp => q p _ 5 "" "" "" (s04.free hp) (s04.put hp) ak ⟨Z0, (fun z => absurd z Z0), (fun _ => rfl), .inl ⟨rfl, rfl⟩⟩ (fun z => absurd z Z0)⟩
  refine bj (by cases fs with | nil => exact absurd rfl hfe | cons x y => rfl) ?_
  have hfl0 : 0 < (fs.length : Int) := by have := length_pos_iff.mpr hfe; omega
  obtain ⟨n0, hn0, ean⟩ := dO (c := c) (k := 5) hfe
  obtain ⟨hn0w, hn0k⟩ := hfree n0 hn0
  refine ⟨_, rfl, _, rfl, _, rfl, fr, _, rfl, .inl (SqL.of hf4), c, 5, fs.length, (show [V.int c, V.int 5, V.int (fs.map V.str).length] = [V.int c, V.int 5, V.int fs.length] by rw [length_map]), Z0, Z0, hfl0, fun H5 s5 => ⟨fr, _, _, _, rfl, rfl, SqL.of (s5 _ _ hf4), ean, ?_⟩⟩
  have s05 : au H H5 := s04.trans s5
  obtain ⟨nm, hnm⟩ : ∃ nm : Str, nm = if so = 5 then ("" : Str) else n0 := ⟨_, rfl⟩
  have hn1 : so < 5 -> cQ nm := fun z => by rw [hnm, if_neg Z1]; exact hwn n0 hn0w
  have hn2 : so = 5 -> nm = "" := fun z => by rw [hnm, if_pos z]
  have hn3 : so < 5 -> nm ∈ ws /\ nm ∉ ks := fun z => by rw [hnm, if_neg Z1]; exact ⟨hn0w, hn0k⟩
  have hlen : ((as.map dotted).map V.str).length <= 12 := by rw [length_map, length_map]; exact g.hi
  by_cases h5 : so = 5
  ·subst h5
   refine ⟨_, rfl, rfl, _, rfl, cU (sT 5) ?_⟩
   obtain rfl : nm = "" := hn2 rfl
   refine ⟨_, rfl, la, rfl, ⟨_, SqL.of (s05 _ _ hla)⟩, bD (xs := (as.map dotted).map V.str) pI (le_trans hlen Z0) (SqL.of (s05 _ _ hla)) (fun x H' Q' hx sm k => ?_) (fun x H' Q' hx sm k => ?_) (fun H6 s6 bn hbn => ?_)⟩
   ·obtain ⟨z, _, rfl⟩ := mem_map.mp hx
    exact ⟨_, rfl, _, _, rfl, rfl, _, rfl, k H' (au.refl _)⟩
   ·exact ⟨_, rfl, k H' (au.refl _)⟩
   have s07 : au H (upd H6 bn (.lst (((as.map dotted).map V.str).filter pI))) := (s05.trans s6).put hbn
   have hb7 : (upd H6 bn (.lst (((as.map dotted).map V.str).filter pI))) bn = some (.lst (((as.map dotted).filter fun z => pI (.str z)).map V.str)) := ak.trans (by rw [c7])
   generalize upd H6 bn (.lst (((as.map dotted).map V.str).filter pI)) = H7 at s07 hb7
   refine ⟨_, rfl, rfl, _, rfl, bj (sF 5 4) (qg ?_)⟩
   obtain ⟨w, hw, eaw⟩ := dO (c := c) (k := 6) hw0
   rw [hw8] at eaw
   refine ⟨_, rfl, _, rfl, _, rfl, _, rfl, _, rfl, c, la, lw, as, ws, rfl, s07 _ _ hla, hne, g, s07 _ _ hlw, hw8, hwn, fun ys gy Ha sa => ⟨_, rfl, _, rfl, c, 6, 8, rfl, Z0, Z0, Z0, fun Hb sb2 => ⟨lw, _, _, _, rfl, rfl, SqL.of ((s07.trans (sa.trans sb2)) _ _ hlw), eaw, by show 4 <= sizeLine; decide, fun t ht => ?_⟩⟩⟩
   exact q t _ _ _ (dotted ys) w ((s07.trans (sa.trans sb2)).free ht) ((s07.trans (sa.trans sb2)).put ht) ak ⟨hso, hn1, hn2, .inr ⟨ys, gy, rfl, hwn w hw⟩⟩ hn3
  ·refine ⟨_, rfl, rfl, _, rfl, bj (sF so 5 (by unfold pX; rw [decide_eq_false h5]; rfl) hso) ?_⟩
   obtain rfl : nm = n0 := by rw [hnm, if_neg h5]
   refine ⟨_, rfl, la, rfl, ⟨_, SqL.of (s05 _ _ hla)⟩, bD (xs := (as.map dotted).map V.str) pI (le_trans hlen Z0) (SqL.of (s05 _ _ hla)) (fun x H' Q' hx sm k => ?_) (fun x H' Q' hx sm k => ?_) (fun H6 s6 bn hbn => ?_)⟩
   ·obtain ⟨z, _, rfl⟩ := mem_map.mp hx
    exact ⟨_, rfl, _, _, rfl, rfl, _, rfl, k H' (au.refl _)⟩
   ·exact ⟨_, rfl, k H' (au.refl _)⟩
   have s07 : au H (upd H6 bn (.lst (((as.map dotted).map V.str).filter pI))) := (s05.trans s6).put hbn
   have hb7 : (upd H6 bn (.lst (((as.map dotted).map V.str).filter pI))) bn = some (.lst (((as.map dotted).filter fun z => pI (.str z)).map V.str)) := ak.trans (by rw [c7])
   generalize upd H6 bn (.lst (((as.map dotted).map V.str).filter pI)) = H7 at s07 hb7
   by_cases h4 : so = 4
   ·subst h4
    refine ⟨_, rfl, rfl, _, rfl, cU (sT 4) ?_⟩
    have hbt : ∀ z ∈ (as.map dotted).filter (fun z => pI (.str z)), ∃ xs b, xs ++ [b] ∈ as /\ z = dotted (xs ++ [b]) /\ xs ≠ [] := fun z hz => yD g hz
    generalize (as.map dotted).filter (fun z => pI (.str z)) = bs at hb7 hbt
    refine ⟨_, rfl, by show 0 <= sizeLine; decide, fun e2 he2 => ⟨bn, e2, bs.map V.str, rfl, rfl, SqL.of ((au.new he2) _ _ hb7), SqL.of ak, _, rfl, ?_⟩⟩
    have s08 : au H (upd H7 e2 (.lst [])) := s07.put he2
    have hb8 : (upd H7 e2 (.lst [])) bn = some (.lst (bs.map V.str)) := (au.new he2) _ _ hb7
    generalize upd H7 e2 (.lst []) = H8 at s08 hb8
    by_cases hbe : bs = []
    ·subst hbe
     refine bj rfl (qg ?_)
     obtain ⟨w, hw, eaw⟩ := dO (c := c) (k := 6) hw0
     rw [hw8] at eaw
     refine ⟨_, rfl, _, rfl, _, rfl, _, rfl, _, rfl, c, la, lw, as, ws, rfl, s08 _ _ hla, hne, g, s08 _ _ hlw, hw8, hwn, fun ys gy Ha sa => ⟨_, rfl, _, rfl, c, 6, 8, rfl, Z0, Z0, Z0, fun Hb sb2 => ⟨lw, _, _, _, rfl, rfl, SqL.of ((s08.trans (sa.trans sb2)) _ _ hlw), eaw, by show 4 <= sizeLine; decide, fun t ht => ?_⟩⟩⟩
     exact q t _ _ _ (dotted ys) w ((s08.trans (sa.trans sb2)).free ht) ((s08.trans (sa.trans sb2)).put ht) ak ⟨hso, hn1, hn2, .inr ⟨ys, gy, rfl, hwn w hw⟩⟩ hn3
    refine cU (by cases bs with | nil => exact absurd rfl hbe | cons x y => rfl) ?_
    refine ⟨_, rfl, c, 7, 2, rfl, Z0, Z0, Z0, fun H9 s9 => ⟨rfl, _, rfl, gj (fun _ => ?_) (fun _ => ?_)⟩⟩
    ·have s09 := s08.trans s9
     have hbl0 : 0 < (bs.length : Int) := by have := length_pos_iff.mpr hbe; omega
     obtain ⟨z, hz, eab⟩ := dO (c := c) (k := 8) hbe
     obtain ⟨xs, b2, hxb, rfl, hxs⟩ := hbt z hz
     have gx := g.ok _ hxb
     have h36 := gx.len
     have nb : cQ b2 := gx.nm b2 Z2
     have gp : cO xs := ⟨hxs, by have := gx.hi; rw [length_append] at this; exact le_trans (Nat.le_add_right _ _) this, fun y hy => gx.nm y (mem_append_left _ hy)⟩
     refine ⟨_, rfl, _, rfl, _, rfl, bn, _, rfl, .inl (SqL.of (s9 _ _ hb8)), c, 8, bs.length, (show [V.int c, V.int 8, V.int (bs.map V.str).length] = [V.int c, V.int 8, V.int bs.length] by rw [length_map]), Z0, Z0, hbl0, fun Ha sa => ⟨bn, _, _, _, rfl, rfl, SqL.of ((s9.trans sa) _ _ hb8), eab, ?_⟩⟩
     have s0a := s09.trans sa
     refine ⟨_, rfl, _, rfl, _, rfl, rfl, _, _, rfl, rfl, Z4, le_trans h36 Z0, fun p1 hp1 => ⟨p1, _, _, _, rfl, rfl, SqT.of ak, bf (j := 0) rfl, ?_⟩⟩
     rw [qM xs b2 hxs nb]
     have s0b : au H (upd Ha p1 (.tup [V.str (dotted xs), V.str ".", V.str b2])) := s0a.put hp1
     generalize upd Ha p1 (.tup [V.str (dotted xs), V.str ".", V.str b2]) = Hb at s0b
     refine ⟨_, rfl, rfl, _, _, rfl, rfl, Z4, le_trans (show (dotted (xs ++ [b2])).length + 2 <= 1000 by omega) dC, fun p2 hp2 => ?_⟩
     rw [dm _ gx.lo gx.nm]
     refine ⟨_, rfl, p2, _, _, _, rfl, rfl, SqL.of ak, Fl, by show 4 <= sizeLine; decide, fun t ht => ?_⟩
     exact q t _ 4 _ (dotted xs) b2 ((s0b.put hp2).free ht) ((s0b.put hp2).put ht) ak ⟨Z0, hn1, hn2, .inr ⟨xs, gp, rfl, nb⟩⟩ hn3
    ·have s09 := s08.trans s9
     obtain ⟨w, hw, eaw⟩ := dO (c := c) (k := 6) hw0
     rw [hw8] at eaw
     refine ⟨_, rfl, _, rfl, _, rfl, _, rfl, _, rfl, c, la, lw, as, ws, rfl, s09 _ _ hla, hne, g, s09 _ _ hlw, hw8, hwn, fun ys gy Ha sa => ⟨_, rfl, _, rfl, c, 6, 8, rfl, Z0, Z0, Z0, fun Hb sb2 => ⟨lw, _, _, _, rfl, rfl, SqL.of ((s09.trans (sa.trans sb2)) _ _ hlw), eaw, by show 4 <= sizeLine; decide, fun t ht => ?_⟩⟩⟩
     exact q t _ _ _ (dotted ys) w ((s09.trans (sa.trans sb2)).free ht) ((s09.trans (sa.trans sb2)).put ht) ak ⟨hso, hn1, hn2, .inr ⟨ys, gy, rfl, hwn w hw⟩⟩ hn3
   refine ⟨_, rfl, rfl, _, rfl, bj (sF so 4 (by unfold pX; rw [decide_eq_false h4]; rfl) hso) (qg ?_)⟩
   obtain ⟨w, hw, eaw⟩ := dO (c := c) (k := 6) hw0
   rw [hw8] at eaw
   refine ⟨_, rfl, _, rfl, _, rfl, _, rfl, _, rfl, c, la, lw, as, ws, rfl, s07 _ _ hla, hne, g, s07 _ _ hlw, hw8, hwn, fun ys gy Ha sa => ⟨_, rfl, _, rfl, c, 6, 8, rfl, Z0, Z0, Z0, fun Hb sb2 => ⟨lw, _, _, _, rfl, rfl, SqL.of ((s07.trans (sa.trans sb2)) _ _ hlw), eaw, by show 4 <= sizeLine; decide, fun t ht => ?_⟩⟩⟩
   exact q t _ _ _ (dotted ys) w ((s07.trans (sa.trans sb2)).free ht) ((s07.trans (sa.trans sb2)).put ht) ak ⟨hso, hn1, hn2, .inr ⟨ys, gy, rfl, hwn w hw⟩⟩ hn3
theorem xF (T : Tx K mg C) (F : Fun K "_law_rows" "_law_rows" jL f fd) : aM P w K mg base CX0 4 f fd uH (BX K) := by
 obtain ⟨fab, dab, Aab⟩ := T.aab
 have Gab : aM P w K mg base CX0 1 fab dab pB (qF K) := uC Aab.F T.len
 obtain ⟨faa, daa, Aaa⟩ := T.aaa
 have Gaa : aM P w K mg base CX0 1 faa daa iW lC := jY Aaa.F
 obtain ⟨fa2, da2, Aa2⟩ := T.aa2
 have Ga2 : aM P w K mg base CX0 3 fa2 da2 qI yU := vM T Aa2.F
 refine F.oq kY fun _ _ _ _ H _ Q E hr h => ?_
 ·obtain ⟨S, la, lw, ns, as, ws, rfl, hS, hla, hne, g, hlw, hw8, hwn, q⟩ := h
  have hr1 : aP 1 _ := hr.mono Z0
  have hr3 : aP 3 _ := hr
  refine ⟨_, QSs.h (ao (aL (i := 3) kY.nd rfl (Or.inl rfl) fu)
   (ao (bU PassesOwn.never rfl (aU (pv 1)) (aG (i := 4) kY.nd rfl (Or.inl rfl))
   (az (QS.mk (fQ (aP.u1 hr) (pv 3) (pv 4) (bz aq) rfl))))
   (ao (bU PassesOwn.never rfl (t7 Z3 T.range (aj aA (aj (aX (BR rfl) Z3 T.min boot_min (aj (aX aY Z3 T.len boot_len (aj (pv 0) aq)) (aj aA aq))) aq))) (aG (i := 5) kY.nd rfl (Or.inl rfl))
   (ao (aL (i := 6) kY.nd rfl (Or.inl rfl) (aR Aab Gab hr1 (aj (pv 0) (aj (pv 5) aq))))
   (ao (aL (i := 7) kY.nd rfl (Or.inr rfl) (bW bC (pv 1) (aR Aaa Gaa hr1 (aj (pv 6) (aj aA (aj (aX aY Z3 T.len boot_len (aj (pv 1) aq)) aq)))) (fun _ _ => rfl)))
   (ao (iG (N := ["_law_row_here"]) [none] (i := 8) kY.nd rfl (Or.inl rfl) rfl Z5 (aU (cz (aP.u1 hr) (pv 3) (pv 7) (fun _ _ => rfl))) (fun cl C fp s H => (aG (i := 0) (by decide +kernel : (["_law_row_here"] : List Str).Nodup) rfl (Or.inl rfl))) (fun cl C fp s H => eU) (fun cl C fp s H => (bW (GC (K := K) rfl) (pv 0) aA (fun _ _ => rfl))))
   (ao (aL (i := 8) kY.nd rfl (Or.inl rfl) (aQ mR (pv 8) (bG (N := ["_law_word", "_law_addresses_here", "_law_owner"]) [none, some 1, some 7] rfl Z5 (aU (pv 2)) (fun cl C fp s H => (aG (i := 0) (by decide +kernel : (["_law_word", "_law_addresses_here", "_law_owner"] : List Str).Nodup) rfl (Or.inl rfl))) (fun cl C fp s H => (fB (aJ (lG (K := K) rfl) (aQ bw (aQ bw (pv 2) aK) (pv 0)) (pv 1) Z3))) (fun cl C fp s H => (pv 0)))))
   (az (bJ (aJ tU (aX aY Z3 T.len boot_len (aj (cz (aP.u1 hr) (pv 3) (pv 7) (fun _ _ => rfl)) aq)) aA (aV _)) (az (bY (dq plainAttrs_list PySem.F.slot_list_append PySem.F.type_list_append dj (cz (aP.u1 hr) (pv 3) (pv 7) (fun _ _ => rfl)) (aj (aR Aa2 Ga2 hr3 (aj (pv 6) (aj (pv 8) (aj (pv 1) (aj (pv 2) aq))))) aq)))) aW)))))))
   (az (aO (pv 3)))))), ?_⟩
  have hfl : ∀ zs : List Str, (zs.map V.str).all cW = true := dB
  have h12 := g.hi
  have hml : ((as.map dotted).map V.str).length = as.length := by rw [length_map, length_map]
  refine fun R hR => ?_
  have s1 : au H (upd H R (.dK [])) := au.new hR
  have hR1 : (upd H R (.dK [])) R = some (.dK []) := ak
  generalize upd H R (.dK []) = H1 at s1 hR1
  refine ⟨_, rfl, la, rfl, ⟨_, SqL.of (s1 _ _ hla)⟩, ?_⟩
  refine bI (xs := (as.map dotted).map V.str) (fun i σ H2 => ∃ v4 v5 v6 v7 v8 L, ∃ rs : Nat -> List Q4, σ = [some (.ref S), some (.ref la), some (.ref lw), some (.ref R), v4, v5, v6, v7, v8] /\ au H H2 /\ DictAt H H2 R as i L rs /\ ∀ j, rs j = [])
   ⟨none, none, none, none, none, (fun _ => 0), (fun _ => []), rfl, s1, ⟨hR, (fun i hi => absurd hi (not_lt_zero _)), ⟨[], hR1, le_refl _, (fun i a hi => absurd hi (not_lt_zero _))⟩, (fun i hi => absurd hi (not_lt_zero _)), (fun i j hi => absurd hi (not_lt_zero _))⟩, fun _ => rfl⟩ ?_ ?_ ?_
  ·rintro i σ H2 _ ⟨v4, v5, v6, v7, v8, L, rs, rfl, sm, _⟩
   exact SqL.of (sm _ _ hla)
  ·rintro i x σ H2 hx ⟨v4, v5, v6, v7, v8, L, rs, rfl, sm, hd, he⟩
   obtain ⟨a, ha, rfl⟩ : ∃ a, as[i]? = some a /\ x = V.str (dotted a) := by
    rw [getElem?_map, getElem?_map] at hx
    cases e : as[i]? with
    | none => rw [e] at hx; cases hx
    | some a => rw [e] at hx; cases hx; exact ⟨a, rfl, rfl⟩
   refine ⟨by show 0 <= sizeLine; decide, fun b hb => ?_⟩
   obtain ⟨kvs, hk, _⟩ := hd.dk
   obtain ⟨hkl, hd2⟩ := hd.more g.nd sm hb ha kvs hk
   have hi12 : i < 12 := by have := (List.getElem?_eq_some_iff.mp ha).1; omega
   have hk2 : (upd H2 b (.lst [])) R = some (.dK kvs) := (au.new hb) _ _ hk
   refine ⟨_, rfl, _, rfl, R, _, rfl, n8.k (k := .inr (dotted a)) hk2 (lt_of_lt_of_le (show kvs.length < 1000 by omega) bH), ?_⟩
   exact ⟨_, _, _, _, _, _, _, rfl, (sm.put hb).over hR, hd2, fun j => by show (if j = i then [] else rs j) = []; rw [he j]; split <;> rfl⟩
  ·rintro σ H2 ⟨v4, v5, v6, v7, v8, L, rs, rfl, sm, hd, he⟩
   rw [hml] at hd
   have hok : du as rs := ⟨(fun i _ => by rw [he i]; decide), (fun i _ d hd => by rw [he i] at hd; cases hd), (fun i a _ d hd => by rw [he i] at hd; cases hd)⟩
   clear he
   refine ⟨_, rfl, S, _, rfl, .inl (sm.seq hS), _, _, rfl, _, _, rfl, ⟨Z0, Z0, by split <;> omega, by split <;> omega⟩, ?_⟩
   refine lY (fun k σ H2 => ∃ v4 v5 v6 v7 v8 L, ∃ rs : Nat -> List Q4, σ = [some (.ref S), some (.ref la), some (.ref lw), some (.ref R), v4, v5, v6, v7, v8] /\ au H H2 /\ DictAt H H2 R as as.length L rs /\ du as rs) ⟨_, _, _, _, _, L, rs, rfl, sm, hd, hok⟩ ?_ ?_
   ·clear hd hok sm
    rintro k σ H3 hk ⟨v4, v5, v6, v7, v8, L, rs, rfl, sm, hd, hok⟩
    refine ⟨_, rfl, _, rfl, S, ns, 6 + (k : Int), rfl, sm.seq hS, Z1, fun H4 s4 => ?_⟩
    generalize pP ns (6 + (k : Int)) = c
    have sm4 := sm.trans s4
    have hd4 := hd.same s4
    clear sm hd s4
    have hzl : 0 < ((as.map dotted).length : Int) := by have := length_pos_iff.mpr hne; rw [length_map]; omega
    obtain ⟨i, a, ha, eat⟩ := Et (c := c) (k := 0) hne
    refine ⟨_, rfl, _, rfl, _, rfl, la, _, rfl, .inl (SqL.of (sm4 _ _ hla)), c, 0, (as.map dotted).length, (show [V.int c, V.int 0, V.int ((as.map dotted).map V.str).length] = [V.int c, V.int 0, V.int (as.map dotted).length] by rw [length_map (f := V.str)]), Z0, Z0, hzl, fun H5 s5 => ⟨la, _, _, _, rfl, rfl, SqL.of ((sm4.trans s5) _ _ hla), eat, ?_⟩⟩
    have sm5 := sm4.trans s5
    have hd5 := hd4.same s5
    clear sm4 hd4 s5 eat hzl
    have hi := (List.getElem?_eq_some_iff.mp ha).1
    have ga := g.ok a (mem_of_getElem? ha)
    have h36 := ga.len
    obtain ⟨xs, hx5, hxl, hxt⟩ := hd5.ts i hi
    have hr12 := hok.hi i hi
    refine ⟨_, rfl, _, rfl, R, _, rfl, hd5.get hi ha (au.refl _), L i, rfl, ⟨_, SqL.of hx5⟩, gU (fun m => V.str (((rs i).map Q4.nm).getD m "")) (le_trans (show xs.length <= 12 by omega) Z0) (SqL.of hx5) (fun m x H' Q' hx sm k => ?_) (fun H6 s6 kn hkn => ?_)⟩
    ·have hm : m < (rs i).length := by rw [<- hxl]; exact (List.getElem?_eq_some_iff.mp hx).1
     obtain ⟨p, e2, tp⟩ := hxt m (rs i)[m] (getElem?_eq_getElem hm)
     obtain rfl : x = .ref p := by rw [hx] at e2; exact Option.some.inj e2
     have k2 : Q' (V.str (((rs i).map Q4.nm).getD m "")) H' := k H' (au.refl _)
     have eg : ((rs i).map Q4.nm).getD m "" = (rs i)[m].nm := by simp [List.getD, hm]
     rw [eg] at k2
     exact ⟨_, rfl, p, _, _, _, rfl, rfl, SqT.of (sm _ _ tp), bf (j := 1) rfl, k2⟩
    rw [Eb hxl]
    have s7 : au H5 (upd H6 kn (.lst (((rs i).map Q4.nm).map V.str))) := s6.put hkn
    have hk7 : (upd H6 kn (.lst (((rs i).map Q4.nm).map V.str))) kn = some (.lst (((rs i).map Q4.nm).map V.str)) := ak
    generalize upd H6 kn (.lst (((rs i).map Q4.nm).map V.str)) = H7 at s7 hk7
    have s07 := sm5.trans s7
    refine ⟨_, rfl, _, rfl, lw, rfl, ⟨_, SqL.of (s07 _ _ hlw)⟩, bD (xs := ws.map V.str) (fun v => inV (vB (dotted a) v) ((as.map dotted).map V.str)) (le_trans (show (ws.map V.str).length <= 8 by rw [length_map]; omega) Z0) (SqL.of (s07 _ _ hlw)) (fun x H' Q' hx sm k => ?_) (fun x H' Q' hx sm k => ?_) (fun H8 s8 fl hfl2 => ?_)⟩
    ·obtain ⟨w, hw, rfl⟩ := mem_map.mp hx
     exact ⟨_, rfl, _, _, rfl, rfl, abS h36 km, _, rfl, _, _, rfl, rfl, abS (alS h36 km) (hwn w hw).hi, _, rfl, la, _, rfl, .inl (SqL.of ((s07.trans sm) _ _ hla)), rfl, hfl _, _, rfl, k H' (au.refl _)⟩
    ·exact ⟨_, rfl, k H' (au.refl _)⟩
    have hk8 := s8 _ _ hk7
    have s9 : au H5 (upd H8 fl (.lst ((ws.map V.str).filter fun v => inV (vB (dotted a) v) ((as.map dotted).map V.str)))) := (s7.trans s8).put hfl2
    have hk9 : (upd H8 fl (.lst ((ws.map V.str).filter fun v => inV (vB (dotted a) v) ((as.map dotted).map V.str)))) kn = some (.lst (((rs i).map Q4.nm).map V.str)) := (au.new hfl2) _ _ hk8
    have hf9 : (upd H8 fl (.lst ((ws.map V.str).filter fun v => inV (vB (dotted a) v) ((as.map dotted).map V.str)))) fl = some (.lst ((ws.filter fun w => inV (vB (dotted a) (.str w)) ((as.map dotted).map V.str)).map V.str)) := ak.trans (by rw [c7])
    generalize upd H8 fl (.lst ((ws.map V.str).filter fun v => inV (vB (dotted a) v) ((as.map dotted).map V.str))) = H9 at s9 hk9 hf9
    have hfm : ∀ w ∈ ws, dotted a ++ "." ++ w ∈ as.map dotted -> w ∈ ws.filter fun w => inV (vB (dotted a) (.str w)) ((as.map dotted).map V.str) := fun w hw hm => mem_filter.mpr ⟨hw, o9 (mem_map.mpr ⟨_, hm, rfl⟩)⟩
    have hf8 : (ws.filter fun w => inV (vB (dotted a) (.str w)) ((as.map dotted).map V.str)).length <= 8 := by rw [<- hw8]; exact length_filter_le _ _
    generalize (ws.filter fun w => inV (vB (dotted a) (.str w)) ((as.map dotted).map V.str)) = fs at hf9 hfm hf8
    refine ⟨kn, fl, _, _, rfl, rfl, hk9, hf9, le_trans (show (((rs i).map Q4.nm).map V.str).length + (fs.map V.str).length <= 20 by simp only [length_map]; omega) Z0, fun e he => ?_⟩
    have s10 : au H5 (upd H9 e (.lst (((rs i).map Q4.nm).map V.str ++ fs.map V.str))) := s9.put he
    have he10 : (upd H9 e (.lst (((rs i).map Q4.nm).map V.str ++ fs.map V.str))) e = some (.lst (((rs i).map Q4.nm ++ fs).map V.str)) := ak.trans (by rw [map_append])
    generalize upd H9 e (.lst (((rs i).map Q4.nm).map V.str ++ fs.map V.str)) = H10 at s10 he10
    clear hk9 hf9 s9 hk8 hfl2 s8 hk7 s07 s7
    have s010 := sm5.trans s10
    have hx10 := s10 _ _ hx5
    refine ⟨_, rfl, _, rfl, R, _, rfl, hd5.get hi ha s10, L i, _, rfl, .inl (SqL.of hx10), _, _, rfl, rfl, _, rfl, gj (fun hlt => ?_) (fun _ => ?_)⟩
    ·have hlt : xs.length < 12 := by omega
     refine ⟨_, rfl, _, rfl, R, _, rfl, hd5.get hi ha s10, .inl ⟨rfl, _, SqL.of hx10⟩, _, rfl, _, rfl, _, rfl, _, rfl, c, e, la, lw, (rs i).map Q4.nm ++ fs, as, ws, rfl, he10, s010 _ _ hla, hne, g, s010 _ _ hlw, hw8, hwn, fun p H11 so nm ad wd hp s11 tp g4 hnk => ?_⟩
     have hx11 := s11 _ _ hx10
     refine ⟨L i, xs, _, rfl, rfl, hx11, lt_of_lt_of_le (show xs.length < 1000 by omega) bH, ?_⟩
     have hd12 := (hd5.same (s10.trans s11)).row hi (d := ⟨so, nm, ad, wd⟩) tp xs hx11
     refine ⟨_, _, _, _, _, L, _, rfl, (s010.trans s11).over (hd5.l0 i hi), hd12, hok.row ha Z1 g4 fun h5 hm => ?_⟩
     obtain ⟨h6, h7⟩ := hnk h5
     exact h7 (mem_append_right _ (hfm nm h6 hm))
    ·exact ⟨_, _, _, _, _, L, rs, rfl, s010, hd5.same s10, hok⟩
   ·rintro σ H3 ⟨v4, v5, v6, v7, v8, L, rs, rfl, sm, hd, hok⟩
    exact ⟨_, rfl, q R H3 L rs sm hd hok⟩
theorem xU (T : Tx K mg C) (F : Fun K "_law_row" "_law_row" lZ f fd) : aM P w K mg base CX0 3 f fd zT (zU C) := by
 obtain ⟨fba, dba, Aba, M_Deed⟩ := T.i_Deed
 have Gba : aM P w K mg base CX0 1 fba dba gK (vL C 1) := m6 T Aba.F
 obtain ⟨fa8, da8, Aa8, M_Draw⟩ := T.i_Draw
 have Ga8 : aM P w K mg base CX0 1 fa8 da8 gH (vH C 2) := ni T Aa8.F
 obtain ⟨fbd, dbd, Abd, M_Late⟩ := T.i_Late
 have Gbd : aM P w K mg base CX0 1 fbd dbd gO (vH C 3) := m5 T Abd.F
 obtain ⟨fbb, dbb, Abb, M_Let⟩ := T.i_Let
 have Gbb : aM P w K mg base CX0 1 fbb dbb iQ (vL C 0) := oh T Abb.F
 obtain ⟨fa9, da9, Aa9, M_Need⟩ := T.i_Need
 have Ga9 : aM P w K mg base CX0 1 fa9 da9 gQ (CT C) := nG T Aa9.F
 obtain ⟨fbe, dbe, Abe, M_Take⟩ := T.i_Take
 have Gbe : aM P w K mg base CX0 1 fbe dbe gF (Ed C) := nj T Abe.F
 refine F.oq sr fun _ _ _ _ H _ Q E hr h => ?_
 ·obtain ⟨p, so, nn, aa, ww, rfl, hp, g4, q⟩ := h
  have hr2 : aP 2 _ := hr
  refine ⟨_, QSs.h (ao (yK (pv 0) (nJ (K := K) (n := 4) rfl rfl (bN (aG (i := 1) sr.nd rfl (Or.inl rfl)) (bN (aG (i := 2) sr.nd rfl (Or.inl rfl)) (bN (aG (i := 3) sr.nd rfl (Or.inl rfl)) (bN (aG (i := 4) sr.nd rfl (Or.inl rfl)) oX))))))
   (ao (aL (i := 5) sr.nd rfl (Or.inl rfl) (bz (aj (iu (aj aA (aj aK (aj aA aq)))) aq)))
   (ao (bJ (aJ Ae (pv 3) aK (aV _)) (az (aL (i := 5) sr.nd rfl (Or.inl rfl) (bz (aj (iu (aj aA (aj aK (aj (dI tD Z3 T.t_tuple PyProof.Rows.boot_tuple (aj (dq plainAttrs_str slot_str_split type_str_split oR (pv 3) (aj aK aq)) aq)) aq)))) (aj (iu (aj (xx rM aA) (aj aK (aj (iu (aj (pv 4) aq)) aq)))) aq))))) aW)
   (ao (bJ (aJ eN (pv 1) aK (aV _)) (az (aO (lg M_Draw Aa8.b Ga8 hr2 T.c_Draw (aj (pv 3) (aj (pv 2) aq))))) aW)
   (ao (bJ (aJ eN (pv 1) aK (aV _)) (az (aO (lg M_Late Abd.b Gbd hr2 T.c_Late (aj (pv 3) (aj (pv 2) aq))))) aW)
   (ao (bJ (aJ eN (pv 1) aK (aV _)) (az (aO (lg M_Take Abe.b Gbe hr2 T.c_Take (aj (pv 4) (aj (pv 3) (aj (pv 2) aq)))))) aW)
   (ao (bJ (aJ eN (pv 1) aK (aV _)) (az (aO (lg M_Let Abb.b Gbb hr2 T.c_Let (aj (pv 2) (aj (pv 5) aq))))) aW)
   (ao (bJ (aJ eN (pv 1) aK (aV _)) (az (aO (lg M_Deed Aba.b Gba hr2 T.c_Deed (aj (pv 2) (aj (pv 5) aq))))) aW)
   (az (aO (lg M_Need Aa9.b Ga9 hr2 T.c_Need (aj (pv 5) aq)))))))))))), ?_⟩
  have h5 := g4.h5
  refine ⟨_, rfl, p, _, rfl, SqT.of hp, rfl, _, _, rfl, _, _, rfl, _, _, rfl, _, _, rfl, rfl, ?_⟩
  refine ⟨by show 3 <= sizeLine; decide, fun t1 ht1 => ⟨by show 1 <= sizeLine; decide, fun l1 hl1 => ?_⟩⟩
  have s1 : au H (upd (upd H t1 (.tup [V.int 1, V.str "number", V.int 1])) l1 (.lst [V.ref t1])) := (au.new ht1).put hl1
  have hts1 : kZ (upd (upd H t1 (.tup [V.int 1, V.str "number", V.int 1])) l1 (.lst [V.ref t1])) l1 [⟨1, .num 1⟩] := ⟨_, ak, rfl, fun i x e => by
   match i, e with
   | 0, e => cases e; exact ⟨_, rfl, t1, _, rfl, (au.new hl1) _ _ ak, rfl⟩
   | n + 1, e => simp at e⟩
  have hl1f : H l1 = none := (au.new ht1).free hl1
  generalize upd (upd H t1 (.tup [V.int 1, V.str "number", V.int 1])) l1 (.lst [V.ref t1]) = H1 at s1 hts1
  by_cases ha : aa = ""
  ·obtain rfl : so = 5 := by
    rcases g4.ha with ⟨_, z⟩ | ⟨ys, gy, e, _⟩
    ·exact z
    ·exact absurd (e.symm.trans ha) (tY gy)
   have gr : GoodR ⟨5, "", dotted ["a"], "a", [⟨1, .num 1⟩]⟩ := ⟨Z0, fun z => absurd z Z0, fun _ => rfl, ⟨_, zA N6, rfl⟩, N6, Ii, fun z => absurd z Z0⟩
   have en : nn = "" := g4.h0 rfl
   refine ⟨_, rfl, rfl, _, rfl, vR (decide_eq_true (congrArg V.str ha)) ?_⟩
   refine ⟨_, rfl, rfl, _, rfl, bj (sF 5 2) ⟨_, rfl, rfl, _, rfl, bj (sF 5 3) ⟨_, rfl, rfl, _, rfl, bj (sF 5 4) ⟨_, rfl, rfl, _, rfl, bj (sF 5 0) ⟨_, rfl, rfl, _, rfl, bj (sF 5 1) ?_⟩⟩⟩⟩⟩
   exact ⟨_, rfl, fun x dx hx hdx hne => ⟨x, dx, ⟨5, "", dotted ["a"], "a", [⟨1, .num 1⟩]⟩, l1, rfl, rfl, ak, hts1.same (bc hx hdx), Z0, fun l H' hl sb ra => ⟨rfl, q x l H' _ gr rfl en.symm (fun z => absurd z Z0) (s1.trans fun b o e => sb b o (bc hx hdx b o e) (aD e hx)) (s1.free hx) ((s1.trans (bc hx hdx)).free hl) ra⟩⟩⟩
  ·obtain ⟨ys, gy, rfl, hww⟩ := g4.ha.resolve_left fun z => ha z.1
   refine ⟨_, rfl, rfl, _, rfl, yz (decide_eq_false fun z => ha (V.str.inj z)) ?_⟩
   have h36 := gy.len
   refine ⟨_, rfl, rfl, _, _, rfl, rfl, Z4, le_trans (show (dotted ys).length + 2 <= 1000 by omega) dC, fun sp hsp => ⟨sp, _, rfl, .inl ⟨SqL.of ak, fun tp htp => ?_⟩⟩⟩
   have es : Txt.split (dotted ys) ("." : Str) = ys := dm ys gy.lo gy.nm
   have s2 : au H1 (upd (upd H1 sp (.lst ((Txt.split (dotted ys) ".").map V.str))) tp (.tup ((Txt.split (dotted ys) ".").map V.str))) := (au.new hsp).put htp
   have htp2 : (upd (upd H1 sp (.lst ((Txt.split (dotted ys) ".").map V.str))) tp (.tup ((Txt.split (dotted ys) ".").map V.str))) tp = some (.tup (ys.map V.str)) := ak.trans (by rw [es])
   generalize upd (upd H1 sp (.lst ((Txt.split (dotted ys) ".").map V.str))) tp (.tup ((Txt.split (dotted ys) ".").map V.str)) = H2 at s2 htp2
   refine ⟨by show 3 <= sizeLine; decide, fun t2 ht2 => ⟨_, rfl, _, rfl, by show 1 <= sizeLine; decide, fun t3 ht3 => ⟨by show 3 <= sizeLine; decide, fun t4 ht4 => ⟨by show 2 <= sizeLine; decide, fun l2 hl2 => ?_⟩⟩⟩⟩
   have s3 : au H2 (upd (upd (upd (upd H2 t2 (.tup [V.int 1, V.str "path", V.ref tp])) t3 (.tup [V.str ww])) t4 (.tup [V.int (-1), V.str "path", V.ref t3])) l2 (.lst [V.ref t2, V.ref t4])) := (((au.new ht2).put ht3).put ht4).put hl2
   have hts3 : kZ (upd (upd (upd (upd H2 t2 (.tup [V.int 1, V.str "path", V.ref tp])) t3 (.tup [V.str ww])) t4 (.tup [V.int (-1), V.str "path", V.ref t3])) l2 (.lst [V.ref t2, V.ref t4])) l2 [⟨1, .nms false ys⟩, ⟨-1, .nms false [ww]⟩] := ⟨_, ak, rfl, fun i x e => by
    match i, e with
    | 0, e => cases e; exact ⟨_, rfl, t2, _, rfl, (au.new hl2) _ _ ((au.new ht4) _ _ ((au.new ht3) _ _ ak)), tp, rfl, s3 _ _ htp2⟩
    | 1, e => cases e; exact ⟨_, rfl, t4, _, rfl, (au.new hl2) _ _ ak, t3, rfl, (au.new hl2) _ _ ((au.new ht4) _ _ ak)⟩
    | n + 2, e => simp at e⟩
   have hl2f : H l2 = none := ((s1.trans s2).trans (((au.new ht2).put ht3).put ht4)).free hl2
   have s03 := s1.trans (s2.trans s3)
   generalize upd (upd (upd (upd H2 t2 (.tup [V.int 1, V.str "path", V.ref tp])) t3 (.tup [V.str ww])) t4 (.tup [V.int (-1), V.str "path", V.ref t3])) l2 (.lst [V.ref t2, V.ref t4]) = H3 at s03 hts3
   have gts := Fv gy hww
   have nc : ∀ t ∈ ([⟨1, .nms false ys⟩, ⟨-1, .nms false [ww]⟩] : List Trm), ∀ zs, t.th ≠ .nms true zs := fun t ht zs => by
    simp only [mem_cons, List.not_mem_nil, or_false] at ht
    rcases ht with rfl | rfl <;> intro z <;> cases z
   have gr : GoodR ⟨so, nn, dotted ys, ww, [⟨1, .nms false ys⟩, ⟨-1, .nms false [ww]⟩]⟩ := ⟨h5, g4.hn, g4.h0, ⟨ys, gy, rfl⟩, hww, gts, fun _ => nc⟩
   have l10 : ([⟨1, .nms false ys⟩, ⟨-1, .nms false [ww]⟩] : List Trm).length <= 10 := by show 2 <= 10; decide
   have q3 : ∀ a l H', au H3 H' -> H3 a = none -> H3 l = none -> dJ C H' a l ⟨so, nn, dotted ys, ww, [⟨1, .nms false ys⟩, ⟨-1, .nms false [ww]⟩]⟩ -> Q (.ref a) H' := fun a l H' s ha hl ra => q a l H' _ gr rfl rfl (fun _ => ⟨rfl, rfl⟩) (s03.trans s) (s03.free ha) (s03.free hl) ra
   clear q gr
   rcases six h5 with rfl | rfl | rfl | rfl | rfl | rfl
   ·exact ⟨_, rfl, rfl, _, rfl, bj (sF 0 2) ⟨_, rfl, rfl, _, rfl, bj (sF 0 3) ⟨_, rfl, rfl, _, rfl, bj (sF 0 4) ⟨_, rfl, rfl, _, rfl, cU (sT 0) ⟨_, rfl, _, rfl, fun x dx hx hdx hne => ⟨x, dx, ⟨0, nn, dotted ys, ww, _⟩, l2, rfl, rfl, ak, hts3.same (bc hx hdx), l10, fun l H' hl sb ra => ⟨rfl, q3 x l H' (fun b o e => sb b o (bc hx hdx b o e) (aD e hx)) hx ((bc hx hdx).free hl) ra⟩⟩⟩⟩⟩⟩⟩
   ·exact ⟨_, rfl, rfl, _, rfl, bj (sF 1 2) ⟨_, rfl, rfl, _, rfl, bj (sF 1 3) ⟨_, rfl, rfl, _, rfl, bj (sF 1 4) ⟨_, rfl, rfl, _, rfl, bj (sF 1 0) ⟨_, rfl, rfl, _, rfl, cU (sT 1) ⟨_, rfl, _, rfl, fun x dx hx hdx hne => ⟨x, dx, ⟨1, nn, dotted ys, ww, _⟩, l2, rfl, rfl, ak, hts3.same (bc hx hdx), l10, fun l H' hl sb ra => ⟨rfl, q3 x l H' (fun b o e => sb b o (bc hx hdx b o e) (aD e hx)) hx ((bc hx hdx).free hl) ra⟩⟩⟩⟩⟩⟩⟩⟩
   ·exact ⟨_, rfl, rfl, _, rfl, cU (sT 2) ⟨_, rfl, _, rfl, fun x dx hx hdx hne => ⟨x, dx, ⟨2, nn, dotted ys, ww, _⟩, rfl, rfl, ak, fun H' sb ra => ⟨rfl, q3 x x H' (fun b o e => sb b o (bc hx hdx b o e) (aD e hx)) hx hx (ra x)⟩⟩⟩⟩
   ·exact ⟨_, rfl, rfl, _, rfl, bj (sF 3 2) ⟨_, rfl, rfl, _, rfl, cU (sT 3) ⟨_, rfl, _, rfl, fun x dx hx hdx hne => ⟨x, dx, ⟨3, nn, dotted ys, ww, _⟩, rfl, rfl, ak, fun H' sb ra => ⟨rfl, q3 x x H' (fun b o e => sb b o (bc hx hdx b o e) (aD e hx)) hx hx (ra x)⟩⟩⟩⟩⟩
   ·exact ⟨_, rfl, rfl, _, rfl, bj (sF 4 2) ⟨_, rfl, rfl, _, rfl, bj (sF 4 3) ⟨_, rfl, rfl, _, rfl, cU (sT 4) ⟨_, rfl, _, rfl, _, rfl, fun x dx hx hdx hne => ⟨x, dx, ⟨4, nn, dotted ys, ww, _⟩, rfl, rfl, ak, fun H' sb ra => ⟨rfl, q3 x x H' (fun b o e => sb b o (bc hx hdx b o e) (aD e hx)) hx hx (ra x)⟩⟩⟩⟩⟩⟩
   ·exact ⟨_, rfl, rfl, _, rfl, bj (sF 5 2) ⟨_, rfl, rfl, _, rfl, bj (sF 5 3) ⟨_, rfl, rfl, _, rfl, bj (sF 5 4) ⟨_, rfl, rfl, _, rfl, bj (sF 5 0) ⟨_, rfl, rfl, _, rfl, bj (sF 5 1) ⟨_, rfl, fun x dx hx hdx hne => ⟨x, dx, ⟨5, nn, dotted ys, ww, _⟩, l2, rfl, rfl, ak, hts3.same (bc hx hdx), l10, fun l H' hl sb ra => ⟨rfl, q3 x l H' (fun b o e => sb b o (bc hx hdx b o e) (aD e hx)) hx ((bc hx hdx).free hl) ra⟩⟩⟩⟩⟩⟩⟩⟩
theorem uE (T : Tx K mg C) (F : Fun K "_law_parts" "_law_parts" iU f fd) : aM P w K mg base CX0 4 f fd qw (yX C) := by
 obtain ⟨fa3, da3, Aa3⟩ := T.aa3
 have Ga3 : aM P w K mg base CX0 3 fa3 da3 zT (zU C) := xU T Aa3.F
 obtain ⟨fbf, dbf, Abf, M_Part⟩ := T.i_Part
 have Gbf : aM P w K mg base CX0 1 fbf dbf gM (Dk C) := nq T Abf.F
 refine F.oq Gm fun _ _ _ _ H _ Q E hr h => ?_
 ·obtain ⟨H0, R, la, as, L, rs, rfl, hla, g, hd, hok, q⟩ := h
  have hr2 : aP 2 _ := hr.mono Z0
  have hr3 : aP 3 _ := hr
  refine ⟨_, QSs.h (az (aO (bG (N := ["_law_address", "_law_rows_here"]) [none, some 1] rfl Z5 (aU (pv 0)) (fun cl C fp s H => (aG (i := 0) (by decide +kernel : (["_law_address", "_law_rows_here"] : List Str).Nodup) rfl (Or.inl rfl))) (fun cl C fp s H => eU) (fun cl C fp s H => (lg M_Part Abf.b Gbf hr2 T.c_Part (aj (pv 0) (aj (bG (N := ["_law_row_here"]) [none] rfl Z5 (Ci (K := K) rfl (cz (aP.u1 hr) (pv 1) (pv 0) (fun _ _ => rfl))) (fun cl C fp s H => (aG (i := 0) (by decide +kernel : (["_law_row_here"] : List Str).Nodup) rfl (Or.inl rfl))) (fun cl C fp s H => eU) (fun cl C fp s H => (aR Aa3 Ga3 hr3 (aj (pv 0) aq)))) aq))))))), ?_⟩
  have h12 := g.hi
  have hml : ((as.map dotted).map V.str).length = as.length := by rw [length_map, length_map]
  refine ⟨_, rfl, la, rfl, ⟨_, SqL.of hla⟩, ?_⟩
  refine m8 (xs := (as.map dotted).map V.str) (fun τ => ∃ u, τ = [u, some (.ref R)]) (fun i v H' => ∃ p : bA, as[i]? = some p.ad /\ (uM as p /\ mW (rs i) p.rs) /\ ∃ a lr, v = V.ref a /\ fK C H' a (dotted p.ad) lr p.rs)
   (fun i v H' H'' ⟨p, e, ok, a, lr, ev, pa⟩ s => ⟨p, e, ok, a, lr, ev, pa.same s⟩) (le_trans (show _ <= 12 by omega) Z0) (SqL.of hla) ⟨_, rfl⟩ (fun i x τ H1 Q' hx s1 hS k => ?_) (fun ys H1 s1 hyl hys d hd => ?_)
  ·obtain ⟨u, rfl⟩ := hS
   obtain ⟨a, ha, rfl⟩ : ∃ a, as[i]? = some a /\ x = V.str (dotted a) := by
    rw [getElem?_map, getElem?_map] at hx
    cases e : as[i]? with
    | none => rw [e] at hx; cases hx
    | some a => rw [e] at hx; cases hx; exact ⟨a, rfl, rfl⟩
   have hi := (List.getElem?_eq_some_iff.mp ha).1
   have ga := g.ok a (mem_of_getElem? ha)
   have hd1 := hd.same s1
   obtain ⟨xs, hx1, hxl, hxt⟩ := hd1.ts i hi
   have hr12 := hok.hi i hi
   refine ⟨_, rfl, _, rfl, _, rfl, R, _, rfl, hd1.get hi ha (au.refl _), L i, rfl, ⟨_, SqL.of hx1⟩, ?_⟩
   refine m8 (xs := xs) (fun τ => ∃ u, τ = [u]) (fun m v H' => ∃ r : cB, tV (rs i) m r /\ ∃ a l, v = V.ref a /\ dJ C H' a l r)
    (fun m v H' H'' ⟨r, ok, a, l, ev, ra⟩ s => ⟨r, ok, a, l, ev, ra.same s⟩) (le_trans (show _ <= 12 by omega) Z0) (SqL.of hx1) ⟨_, rfl⟩ (fun m x τ H2 Q2 hx s2 hS k2 => ?_) (fun zs H2 s2 hzl hzs dz hdz => ?_)
   ·obtain ⟨u2, rfl⟩ := hS
    have hm : m < (rs i).length := by rw [<- hxl]; exact (List.getElem?_eq_some_iff.mp hx).1
    have em : (rs i)[m]? = some (rs i)[m] := getElem?_eq_getElem hm
    obtain ⟨p, e2, tp⟩ := hxt m (rs i)[m] em
    obtain rfl : x = .ref p := by rw [hx] at e2; exact Option.some.inj e2
    exact ⟨_, rfl, p, _, _, _, _, rfl, s2 _ _ tp, hok.g4 i hi _ (getElem_mem hm), fun ra l H3 r gr e5 e6 e7 s3 _ _ rat => k2 _ _ _ ⟨_, rfl⟩ s3 ⟨r, ⟨_, em, gr, e5, e6, e7⟩, ra, l, rfl, rat⟩⟩
   obtain ⟨rr, hrl, hrr⟩ := gw (fun m v r => tV (rs i) m r /\ ∃ a l, v = V.ref a /\ dJ C H2 a l r) zs 0 (fun m v e => by rw [zero_add]; exact hzs m v e)
   have hra : oZ C (upd H2 dz (.lst zs)) dz rr := ⟨zs, ak, hrl.symm, fun m r e => by
    have hm : m < zs.length := by rw [<- hrl]; exact (List.getElem?_eq_some_iff.mp e).1
    obtain ⟨r2, e2, _, ra, l, e3, rat⟩ := hrr m _ (getElem?_eq_getElem hm)
    rw [e] at e2
    cases e2
    exact ⟨ra, l, by rw [getElem?_eq_getElem hm, e3], rat.same (au.new hdz)⟩⟩
   have hrm : ∀ (m : Nat) r, rr[m]? = some r -> tV (rs i) m r := fun m r e => by
    have hm : m < zs.length := by rw [<- hrl]; exact (List.getElem?_eq_some_iff.mp e).1
    obtain ⟨r2, e2, ok, _⟩ := hrr m _ (getElem?_eq_getElem hm)
    rw [e] at e2
    cases e2
    rw [zero_add] at ok
    exact ok
   have hro : ∀ r ∈ rr, ∃ m, tV (rs i) m r := fun r hr => by
    obtain ⟨m, hm, e⟩ := getElem_of_mem hr
    exact ⟨m, hrm m r (by rw [getElem?_eq_getElem hm, e])⟩
   have hgr : mQ rr := ⟨Z1, fun r hr => by obtain ⟨m, d, _, gr, _⟩ := hro r hr; exact gr⟩
   have s3 : au H1 (upd H2 dz (.lst zs)) := s2.put hdz
   generalize upd H2 dz (.lst zs) = H3 at hra s3
   refine fun x dx hx hdx hne => ⟨x, dx, dotted a, dz, rr, rfl, ak, hra.same (bc hx hdx), hgr, fun l H4 hl sb pa => ⟨rfl, ?_⟩⟩
   refine k _ _ H4 ⟨_, rfl⟩ (s3.trans fun b o e => sb b o (bc hx hdx b o e) (aD e hx)) ⟨⟨a, rr⟩, ha, ⟨⟨⟨ga, hgr⟩, fun r hr hn => ?_⟩, (show rr.length = (rs i).length by omega), fun m r e => hrm m r e⟩, x, l, rfl, pa⟩
   obtain ⟨m, d, ed, gr, e5, e6, _⟩ := hro r hr
   have g4 := hok.g4 i hi d (mem_of_getElem? ed)
   have h5 : d.so < 5 := by
    rcases lt_or_ge d.so 5 with z | z
    ·exact z
    ·exact absurd (e6.trans (g4.h0 (Nat.le_antisymm g4.h5 z))) hn
   have := hok.cl i a ha d (mem_of_getElem? ed) h5
   rw [<- e6] at this
   exact this
  ·obtain ⟨ps, hpl, hps⟩ := gw (fun i v p => as[i]? = some p.ad /\ (uM as p /\ mW (rs i) p.rs) /\ ∃ a lr, v = V.ref a /\ fK C H1 a (dotted p.ad) lr p.rs) ys 0 (fun i v e => by rw [zero_add]; exact hys i v e)
   have hpa : ∀ (i : Nat) p, ps[i]? = some p -> as[i]? = some p.ad /\ (uM as p /\ mW (rs i) p.rs) /\ ∃ a lr, ys[i]? = some (V.ref a) /\ fK C H1 a (dotted p.ad) lr p.rs := fun i p e => by
    have hi : i < ys.length := by rw [<- hpl]; exact (List.getElem?_eq_some_iff.mp e).1
    obtain ⟨p2, e2, e3, ok, a, lr, e4, pa⟩ := hps i _ (getElem?_eq_getElem hi)
    rw [e] at e2
    cases e2
    rw [zero_add] at e3 ok
    exact ⟨e3, ok, a, lr, by rw [getElem?_eq_getElem hi, e4], pa⟩
   have hal : ps.length = as.length := by omega
   have ead : adS ps = as.map dotted := HQ hal fun i p e => (hpa i p e).1
   exact q d H1 ys ps s1 hd ⟨hpl.symm, fun i p e => (hpa i p e).2.2⟩ ead (CW g hal ead fun p hp => by
    obtain ⟨i, hi, e⟩ := getElem_of_mem hp
    obtain ⟨h1, h2, _⟩ := hpa i p (by rw [getElem?_eq_getElem hi, e])
    exact ⟨mem_of_getElem? h1, h2.1⟩) (fun i p e => ⟨(hpa i p e).1, (hpa i p e).2.1.2⟩)
theorem xg (T : Tx K mg C) (F : Fun K "_law_made" "_law_made" jG f fd) : aM P w K mg base CX0 5 f fd vJ (wz K) := by
 obtain ⟨fa0, da0, Aa0⟩ := T.aa0
 have Ga0 : aM P w K mg base CX0 2 fa0 da0 qG zK := vD T Aa0.F
 obtain ⟨fau, dau, Aau⟩ := T.aau
 have Gau : aM P w K mg base CX0 2 fau dau iC DX := pO T Aau.F
 obtain ⟨fab, dab, Aab⟩ := T.aab
 have Gab : aM P w K mg base CX0 1 fab dab pB (qF K) := uC Aab.F T.len
 obtain ⟨faa, daa, Aaa⟩ := T.aaa
 have Gaa : aM P w K mg base CX0 1 faa daa iW lC := jY Aaa.F
 obtain ⟨faq, daq, Aaq⟩ := T.aaq
 have Gaq : aM P w K mg base CX0 4 faq daq uH (BX K) := xF T Aaq.F
 refine F.oq rJ fun _ _ _ _ H _ Q E hr h => ?_
 ·obtain ⟨S, ns, rfl, hS, q⟩ := h
  have hr1 : aP 1 _ := hr.mono Z0
  have hr2 : aP 2 _ := hr.mono Z0
  have hr4 : aP 4 _ := hr
  refine ⟨_, QSs.h (ao (aL (i := 1) rJ.nd rfl (Or.inl rfl) (aR Aa0 Ga0 hr2 (aj (aR Aab Gab hr1 (aj (pv 0) (aj aA aq))) aq)))
   (ao (aL (i := 2) rJ.nd rfl (Or.inl rfl) (aQ cR aA (aR Aaa Gaa hr1 (aj (aR Aab Gab hr1 (aj (pv 0) (aj aA aq))) (aj aA (aj aA aq))))))
   (ao (bJ (aJ eN (aR Aaa Gaa hr1 (aj (aR Aab Gab hr1 (aj (pv 0) (aj aA aq))) (aj aA (aj aA aq)))) aA (aV _)) (az (aL (i := 2) rJ.nd rfl (Or.inl rfl) aA)) aW)
   (ao (aL (i := 3) rJ.nd rfl (Or.inl rfl) (aR Aau Gau hr2 (aj (aR Aab Gab hr1 (aj (pv 0) (aj aA aq))) (aj (pv 2) (aj (pv 1) aq)))))
   (az (aO (iu (aj (pv 1) (aj (pv 3) (aj (aR Aaq Gaq hr4 (aj (pv 0) (aj (pv 3) (aj (pv 1) aq)))) aq)))))))))), ?_⟩
  refine ⟨_, rfl, S, ns, 2, rfl, hS, Z0, fun H1 s1 => ⟨_, rfl, fun lw H2 ws hlw0 s2 hw8 hwn hlw => ?_⟩⟩
  have s02 := s1.trans s2
  refine ⟨_, rfl, S, ns, 0, rfl, s02.seq hS, Z0, fun H3 s3 => ⟨_, 0, 6, rfl, Z0, Z0, Z0, fun H4 s4 => ⟨_, _, rfl, rfl, ?_⟩⟩⟩
  have k1 := fc (pP ns 0) 0 (m := 6) Z0
  have k2 := gb (pP ns 0) 0 (m := 6) Z0
  generalize pick (pP ns 0) 0 6 = mn at k1 k2
  have s24 := s3.trans s4
  refine ⟨_, rfl, S, ns, 0, rfl, (s02.trans s24).seq hS, Z0, fun H5 s5 => ⟨_, 1, 8, rfl, Z0, Z0, Z0, fun H6 s6 => ⟨rfl, _, rfl, gj (fun _ => ?_) (fun _ => ?_)⟩⟩⟩
  all_goals
   have s26 := s24.trans (s5.trans s6)
   refine ⟨_, rfl, S, ns, 1, rfl, (s02.trans s26).seq hS, Z0, fun H7 s7 => ⟨_, rfl, _, rfl, _, _, lw, ws, rfl, Z1, Z1, (s26.trans s7) _ _ hlw, hw8, hwn, fun la H8 as _ s8 hne g hla => ?_⟩⟩
   have s28 := s26.trans (s7.trans s8)
   refine ⟨_, rfl, _, rfl, _, rfl, _, rfl, _, rfl, S, la, lw, ns, as, ws, rfl, (s02.trans s28).seq hS, hla, hne, g, s28 _ _ hlw, hw8, hwn, fun R H9 L rs s9 hd hok => ⟨by show 3 <= sizeLine; decide, fun p hp => ?_⟩⟩
   exact q p lw la R ws as L rs H8 _ ak (((s02.trans s28).trans s9).put hp) ((s9.put hp) _ _ (s28 _ _ hlw)) hw8 hwn ((s9.put hp) _ _ hla) hne g (hd.same (au.new hp)) hok
theorem qd (T : Tx K mg C) (F : Fun K "_law_prefixes" "_law_prefixes" eV f fd) : aM P w K mg base CX0 1 f fd jB qD := by
 refine F.oq rF fun _ _ _ _ H _ Q E hr h => ?_
 ·obtain ⟨ys, rfl, g, q⟩ := h
  refine ⟨_, QSs.h (ao (aL (i := 1) rF.nd rfl (Or.inr rfl) (dq plainAttrs_str slot_str_split type_str_split oR (pv 0) (aj aK aq)))
   (az (aO (bG (N := ["_law_k", "_law_names"]) [none, some 1] rfl Z5 (fM Z3 T.range (aj (aX aY Z3 T.len boot_len (aj (pv 1) aq)) aq)) (fun cl C fp s H => (aG (i := 0) (by decide +kernel : (["_law_k", "_law_names"] : List Str).Nodup) rfl (Or.inl rfl))) (fun cl C fp s H => eU) (fun cl C fp s H => (uT (K := K) rfl plainAttrs_str slot_str_join type_str_join (rD rfl) aK (aj (gm (qR (K := K) rfl) (pv 1) lN (dZ (aQ cR (pv 0) aA))) aq))))))), ?_⟩
  have h36 := g.len
  have h3 := g.hi
  refine ⟨_, rfl, rfl, _, _, rfl, rfl, Z4, le_trans (show (dotted ys).length + 2 <= 1000 by omega) dC, fun p hp => ?_⟩
  rw [dm ys g.lo g.nm]
  refine ⟨_, rfl, p, _, rfl, .inl (SqL.of ak), _, rfl, Z1, by rw [length_map]; omega, ?_⟩
  rw [length_map, Int.toNat_natCast]
  refine qY (fun i => V.str (dotted (ys.take (i + 1)))) (le_trans (show ys.length <= 3 by omega) Z0) (fun i H' Q' hi sm k' => ?_) (fun τ H Q Q' hh h => hh _ _ h) (fun H' sm p2 hp2 => ?_)
  ·refine ⟨rfl, rfl, _, rfl, _, rfl, _, _, rfl, rfl, _, rfl, p, _, rfl, SqL.of (sm _ _ ak), fun p3 hp3 => ?_⟩
   have e : (0 + (i : Int) + 1) = ((i + 1 : Nat) : Int) := by omega
   have hs : ((ys.take (i + 1)).map (·.length)).sum <= (ys.take (i + 1)).length * 8 := uR fun y hy => (g.nm y (mem_of_mem_take hy)).hi
   have ht : (ys.take (i + 1)).length <= 3 := le_trans (length_take_le' _ _) h3
   refine ⟨_, p3, ys.take (i + 1), rfl, rfl, .inl (SqL.of ?_), ?_, k' _ (au.new hp3)⟩
   ·rw [ak, e, nO _ Z1]; rfl
   ·rw [show (("." : Str)).length = 1 from by decide +kernel]; omega
  ·have h0 : H p2 = none := (au.new hp).free (sm.free hp2)
   refine q p2 _ h0 (((au.new hp).trans sm).put hp2) ?_
   rw [ak]
   unfold dM
   rw [map_map]
   rfl
theorem oJ (T : Tx K mg C) (F : Fun K "_law_links" "_law_links" iH f fd) : aM P w K mg base CX0 2 f fd nP rQ := by
 obtain ⟨faj, daj, Aaj⟩ := T.aaj
 have Gaj : aM P w K mg base CX0 1 faj daj jB qD := qd T Aaj.F
 refine F.oq jR fun _ _ _ _ H _ Q E hr h => ?_
 ·obtain ⟨H0, la, R, as, L, rs, i, a, rfl, hla, g, hd, hok, ha, q⟩ := h
  have hr1 : aP 1 _ := hr
  refine ⟨_, QSs.h (ao (aL (i := 3) jR.nd rfl (Or.inr rfl) (gm nR (aR Aaj Gaj hr1 (aj (pv 0) aq)) (dZ (xx rM aA)) (dZ (xx rM aA))))
   (ao (bU PassesOwn.never rfl (aU (cz (aP.u1 hr) (pv 2) (pv 0) (fun _ _ => rfl))) (nJ (K := K) (n := 4) rfl rfl (bN (aG (i := 4) jR.nd rfl (Or.inl rfl)) (bN (aG (i := 5) jR.nd rfl (Or.inl rfl)) (bN (aG (i := 6) jR.nd rfl (Or.inl rfl)) (bN (aG (i := 7) jR.nd rfl (Or.inl rfl)) oX)))))
   (ao (bJ (aJ pH (pv 4) (iu (aj aK (aj aK (aj aK aq)))) Z3) (az (aL (i := 3) jR.nd rfl (Or.inr rfl) (aQ mR (pv 3) (aR Aaj Gaj hr1 (aj (pv 6) aq))))) aW)
   (az (bJ (aJ eN (pv 4) aK (aV _)) (az (bY (dq plainAttrs_list PySem.F.slot_list_append PySem.F.type_list_append dj (pv 3) (aj (aQ bw (aQ bw (pv 6) aK) (pv 7)) aq)))) aW))))
   (az (aO (aX dU Z3 T.sorted boot_sorted (aj (bG (N := ["_law_one", "_law_named"]) [none, some 3] rfl Z5 (aU (pv 1)) (fun cl C fp s H => (aG (i := 0) (by decide +kernel : (["_law_one", "_law_named"] : List Str).Nodup) rfl (Or.inl rfl))) (fun cl C fp s H => (fB (aJ (lG (K := K) rfl) (pv 0) (pv 1) Z3))) (fun cl C fp s H => (pv 0))) aq)))))), ?_⟩
  have ga := g.ok a (mem_of_getElem? ha)
  have hi := (List.getElem?_eq_some_iff.mp ha).1
  refine ⟨_, rfl, a, rfl, ga, fun p0 H1 hp0 s1 hp1 => ⟨_, rfl, _, rfl, _, rfl, _, rfl, p0, _, rfl, SqL.of hp1, fun F hF => ?_⟩⟩
  have hF0 : H F = none := s1.free hF
  rw [show gP ((dM a).map V.str) (some (-2)) (some (-1)) = (nU a).map V.str from Ji ga]
  have s2 : au H (upd H1 F (.lst ((nU a).map V.str))) := s1.put hF
  have hF2 : (upd H1 F (.lst ((nU a).map V.str))) F = some (.lst ((nU a).map V.str)) := ak
  generalize upd H1 F (.lst ((nU a).map V.str)) = H2 at s2 hF2
  have hfl : ∀ zs : List Str, (zs.map V.str).all cW = true := dB
  obtain ⟨xs, hx0, hxl, hxt⟩ := hd.ts i hi
  have hr12 := hok.hi i hi
  have hlnF : ∀ (ds : List Q4), (∀ d ∈ ds, d ∈ rs i) -> ds.length <= 12 -> (nU a ++ ds.flatMap gZ).length <= 50 := fun ds hds h12 => by
   have h1 := Dm a
   have h2 := Bc (ds := ds) fun d hd => hok.g4 i hi d (hds d hd)
   rw [length_append]; omega
  refine ⟨_, rfl, _, rfl, R, _, rfl, hd.get hi ha s2, L i, rfl, ⟨_, SqL.of (s2 _ _ hx0)⟩, ?_⟩
  refine bI (xs := xs) (fun k σ H' => ∃ v4 v5 v6 v7 F, σ = [some (.str (dotted a)), some (.ref la), some (.ref R), some (.ref F), v4, v5, v6, v7] /\ H F = none /\ au H H' /\ H' F = some (.lst ((nU a ++ ((rs i).take k).flatMap gZ).map V.str))) ⟨none, none, none, none, F, rfl, hF0, s2, by rw [take_zero, List.flatMap_nil, append_nil]; exact hF2⟩ ?_ ?_ ?_
  ·rintro k σ H' _ ⟨v4, v5, v6, v7, F, rfl, _, sm, _⟩
   exact SqL.of (sm _ _ hx0)
  ·rintro k x σ H' hx ⟨v4, v5, v6, v7, F, rfl, hF0, sm, hF'⟩
   have hk : k < (rs i).length := by rw [<- hxl]; exact (List.getElem?_eq_some_iff.mp hx).1
   have er : (rs i)[k]? = some (rs i)[k] := getElem?_eq_getElem hk
   obtain ⟨p, e2, tp⟩ := hxt k _ er
   obtain rfl : x = .ref p := by rw [hx] at e2; exact Option.some.inj e2
   have g4 := hok.g4 i hi _ (getElem_mem hk)
   rw [ph er, <- append_assoc]
   have h50 := hlnF ((rs i).take k) (fun d hd => mem_of_mem_take hd) (le_trans (length_take_le' _ _) hr12)
   generalize nU a ++ ((rs i).take k).flatMap gZ = us at hF' h50
   unfold TupAt at tp
   unfold gZ
   generalize (rs i)[k] = d at tp g4
   obtain ⟨so, nm, ad, wd⟩ := d
   have h5 := g4.h5
   have g4 : G4 so nm ad wd := g4
   simp only at h5 tp ⊢
   refine ⟨p, _, rfl, SqT.of (sm _ _ tp), rfl, _, _, rfl, _, _, rfl, _, _, rfl, _, _, rfl, rfl, ?_⟩
   refine ⟨_, rfl, by show 3 <= sizeLine; decide, fun t3 ht3 => ⟨t3, dal, rfl, .inr (SqT.of ak), rfl, rfl, _, rfl, ?_⟩⟩
   have sm3 := sm.put (o := .tup dal) ht3
   have hF3 : (upd H' t3 (.tup dal)) F = some (.lst (us.map V.str)) := (au.new ht3) _ _ hF'
   change (if inV (V.str (fG so)) dal = true then _ else _)
   by_cases c : so = 2 \/ so = 3 \/ so = 4
   ·obtain ⟨ys, gy, rfl, nw⟩ := g4.ha.resolve_left fun z => by have := z.2; omega
    refine cU (by rw [zc h5]; exact decide_eq_true c) ?_
    rw [if_pos c]
    refine ⟨_, rfl, _, rfl, ys, rfl, gy, fun pp H4 hpp s4 hp4 => ?_⟩
    have h3 := gy.hi
    refine ⟨F, pp, _, _, rfl, rfl, s4 _ _ hF3, hp4, le_trans (show (us.map V.str).length + ((dM ys).map V.str).length <= 60 by rw [length_map, length_map, gR]; omega) Z0, fun G hG => ?_⟩
    have sG : au H (upd H4 G (.lst (us.map V.str ++ (dM ys).map V.str))) := (sm3.trans s4).put hG
    have hG0 : H G = none := (sm3.trans s4).free hG
    have hG5 : (upd H4 G (.lst (us.map V.str ++ (dM ys).map V.str))) G = some (.lst ((us ++ mD (dotted ys)).map V.str)) := ak.trans (by rw [lU gy, map_append])
    generalize upd H4 G (.lst (us.map V.str ++ (dM ys).map V.str)) = H5 at sG hG5
    by_cases h4 : so = 4
    ·subst h4
     refine ⟨_, rfl, rfl, _, rfl, cU (sT 4) ?_⟩
     rw [if_pos rfl]
     have h36 := gy.len
     have hl6 : ((us ++ mD (dotted ys)).map V.str).length < 1000 := by rw [length_map, length_append, lU gy, gR]; omega
     refine ⟨_, rfl, .inl ⟨rfl, _, SqL.of hG5⟩, _, rfl, _, _, rfl, rfl, abS h36 km, _, rfl, _, _, rfl, rfl, abS (alS h36 km) nw.hi, G, _, _, rfl, rfl, hG5, lt_of_lt_of_le hl6 bH, ?_⟩
     exact ⟨_, _, _, _, G, rfl, hG0, sG.over hG0, ak.trans (by rw [<- append_assoc]; exact congrArg (fun z => some (HO.lst z)) (map_append (l₁ := us ++ mD (dotted ys)) (l₂ := [dotted ys ++ "." ++ wd])).symm)⟩
    ·rw [if_neg h4, append_nil]
     exact ⟨_, rfl, rfl, _, rfl, bj (sF so 4 (by unfold pX; rw [decide_eq_false h4]; rfl) h5) ⟨_, _, _, _, G, rfl, hG0, sG, hG5⟩⟩
   ·have h4 : so ≠ 4 := fun z => c (.inr (.inr z))
    refine bj (by rw [zc h5]; exact decide_eq_false c) ?_
    rw [if_neg c, if_neg h4, append_nil, append_nil]
    exact ⟨_, rfl, rfl, _, rfl, bj (sF so 4 (by unfold pX; rw [decide_eq_false h4]; rfl) h5) ⟨_, _, _, _, F, rfl, hF0, sm3, hF3⟩⟩
  ·rintro σ H' ⟨v4, v5, v6, v7, F, rfl, hF0, sm, hF'⟩
   rw [hxl, take_length] at hF'
   have h12 := g.hi
   refine ⟨_, rfl, la, rfl, ⟨_, SqL.of (sm _ _ hla)⟩, ?_⟩
   refine bD (xs := (as.map dotted).map V.str) (fun v => inV v ((kO a (rs i)).map V.str)) (le_trans (show ((as.map dotted).map V.str).length <= 12 by rw [length_map, length_map]; exact h12) Z0) (SqL.of (sm _ _ hla)) (fun x H7 Q' hx s7 k => ?_) (fun x H7 Q' hx s7 k => ?_) (fun H7 s7 c hc => ?_)
   ·obtain ⟨y, _, rfl⟩ := mem_map.mp hx
    exact ⟨_, rfl, _, rfl, F, _, rfl, .inl (SqL.of (s7 _ _ hF')), rfl, hfl _, _, rfl, k H7 (au.refl _)⟩
   ·exact ⟨_, rfl, k H7 (au.refl _)⟩
   rw [yV]
   refine ⟨c, _, rfl, SqL.of ak, Nat.lt_of_le_of_lt (length_filter_le _ _) (by rw [length_map]; omega), fun b zs h1 h2 hb => ?_⟩
   have s8 := (sm.trans s7).put (o := .lst (((as.map dotted).filter fun y => decide (y ∈ kO a (rs i))).map V.str)) hc
   exact q b _ zs (s8.free hb) (s8.put hb) h1 h2 ak
theorem tK (T : Tx K mg C) (F : Fun K "_law_behind" "_law_behind" gJ f fd) : aM P w K mg base CX0 3 f fd nY xN := by
 obtain ⟨fac, dac, Aac⟩ := T.aac
 have Gac : aM P w K mg base CX0 2 fac dac nP rQ := oJ T Aac.F
 refine F.oq eZ fun _ _ _ _ H _ Q E hr h => ?_
 ·obtain ⟨H0, la, R, as, L, rs, rfl, hla, g, hd, hok, q⟩ := h
  have hr2 : aP 2 _ := hr
  refine ⟨_, QSs.h (ao (aL (i := 2) eZ.nd rfl (Or.inl rfl) fu)
   (ao (aL (i := 3) eZ.nd rfl (Or.inl rfl) fu)
   (ao (bU PassesOwn.never rfl (aU (pv 0)) (aG (i := 4) eZ.nd rfl (Or.inl rfl))
   (az (QS.mk (fQ (aP.u1 hr) (pv 3) (pv 4) (aR Aac Gac hr2 (aj (pv 4) (aj (pv 0) (aj (pv 1) aq)))) rfl))))
   (ao (bU PassesOwn.never rfl (aU (pv 0)) (aG (i := 4) eZ.nd rfl (Or.inl rfl))
   (ao (aL (i := 5) eZ.nd rfl (Or.inr rfl) (dI cu Z3 T.t_list boot_list (aj (cz (aP.u1 hr) (pv 3) (pv 4) (fun _ _ => rfl)) aq)))
   (ao (aL (i := 6) eZ.nd rfl (Or.inl rfl) aA)
   (ao (QS.mk (oE PassesOwn.never (aJ tU (pv 6) (aX aY Z3 T.len boot_len (aj (pv 5) aq)) (aV _)) (QSs.h (ao (aL (i := 5) eZ.nd rfl (Or.inr rfl) (aQ mR (pv 5) (bG (N := ["_law_one", "_law_found"]) [none, some 5] rfl Z5 (aU (cz (aP.u1 hr) (pv 3) (bW bC (pv 5) (pv 6) (fun _ _ => rfl)) (fun _ _ => rfl))) (fun cl C fp s H => (aG (i := 0) (by decide +kernel : (["_law_one", "_law_found"] : List Str).Nodup) rfl (Or.inl rfl))) (fun cl C fp s H => (fB (aJ (pM (K := K) rfl) (pv 0) (pv 1) Z3))) (fun cl C fp s H => (pv 0)))))
   (az (aL (i := 6) eZ.nd rfl (Or.inl rfl) (aQ cR (pv 6) aA)))))))
   (az (QS.mk (fQ (aP.u1 hr) (pv 2) (pv 4) (pv 5) rfl)))))))
   (az (aO (pv 2))))))), ?_⟩
  refine fun B hB => ?_
  have s1 : au H (upd H B (.dK [])) := au.new hB
  have hB1 : (upd H B (.dK [])) B = some (.dK []) := ak
  generalize upd H B (.dK []) = H1 at s1 hB1
  refine fun N hN => ?_
  have hN0 : H N = none := s1.free hN
  have hNB : N ≠ B := (aD hB1 hN).symm
  have s2 : au H (upd H1 N (.dK [])) := s1.put hN
  have hB2 : (upd H1 N (.dK [])) B = some (.dK []) := (au.new hN) _ _ hB1
  have hN2 : (upd H1 N (.dK [])) N = some (.dK []) := ak
  generalize upd H1 N (.dK []) = H2 at s2 hB2 hN2
  have h12 := g.hi
  have hzl : (as.map dotted).length <= 12 := by rw [length_map]; exact h12
  have at_ : ∀ {i : Nat} {v : V}, ((as.map dotted).map V.str)[i]? = some v -> ∃ a, as[i]? = some a /\ v = V.str (dotted a) := fun {i v} hx => by
   rw [getElem?_map, getElem?_map] at hx
   cases e : as[i]? with
   | none => rw [e] at hx; cases hx
   | some a => rw [e] at hx; cases hx; exact ⟨a, rfl, rfl⟩
  have new_ : ∀ {i : Nat} {a : List Str}, as[i]? = some a -> dotted a ∉ (as.map dotted).take i := fun {i a} ha hm => by
   obtain ⟨j, hj, ej⟩ := getElem_of_mem hm
   have hji : j < i := lt_of_lt_of_le hj (length_take_le i _)
   have e2 : (as.map dotted)[j]? = some (dotted a) := by
    have := getElem?_eq_getElem hj
    rw [ej, getElem?_take] at this
    simpa [hji] using this
   have e1 : (as.map dotted)[i]? = some (dotted a) := by rw [getElem?_map, ha]; rfl
   have := (getElem?_inj (List.getElem?_eq_some_iff.mp e2).1 g.nd).mp (e2.trans e1.symm)
   omega
  have tk_ : ∀ {i : Nat} {a : List Str}, as[i]? = some a -> (as.map dotted).take (i + 1) = (as.map dotted).take i ++ [dotted a] := fun {i a} ha => by
   rw [take_succ, getElem?_map, ha]; rfl
  refine ⟨_, rfl, la, rfl, ⟨_, SqL.of (s2 _ _ hla)⟩, ?_⟩
  refine bI (xs := (as.map dotted).map V.str) (fun i σ H' => ∃ v4, ∃ nb : Str -> List Str, σ = [some (.ref la), some (.ref R), some (.ref B), some (.ref N), v4, none, none] /\ au H H' /\ H' B = some (.dK []) /\ dw H' N ((as.map dotted).take i) nb /\ ∀ (j : Nat) a, j < i -> as[j]? = some a -> (nb (dotted a)).Perm ((as.map dotted).filter fun y => decide (y ∈ kO a (rs j))) /\ sortedS (nb (dotted a)) = true)
   ⟨none, (fun _ => []), rfl, s2, hB2, ⟨[], hN2, rfl, (fun z hz => by cases hz)⟩, (fun j a hj => absurd hj (not_lt_zero _))⟩ ?_ ?_ ?_
  ·rintro i σ H' _ ⟨v4, nb, rfl, sm, _⟩
   exact SqL.of (sm _ _ hla)
  ·rintro i v σ H' hv ⟨v4, nb, rfl, sm, hB', lk, hnb⟩
   obtain ⟨a, ha, rfl⟩ := at_ hv
   refine ⟨_, rfl, _, rfl, _, rfl, H0, la, R, as, L, rs, i, a, rfl, sm _ _ hla, g, hd.same sm, hok, ha, fun c H3 ys hc s3 hy1 hy2 hc3 => ?_⟩
   have hnew := new_ ha
   have e0 : (if dotted a = dotted a then ys else nb (dotted a)) = ys := if_pos rfl
   have lk3 : dw H3 N ((as.map dotted).take i) (fun z => if z = dotted a then ys else nb z) := (lk.same s3).but fun z hz => by
    show nb z = if z = dotted a then ys else nb z
    rw [if_neg (fun k : z = dotted a => hnew (k ▸ hz))]
   obtain ⟨kvs, hk1, hk2, lk4⟩ := lk3.more hnew (l := c) (by show H3 c = some (.lst ((if dotted a = dotted a then ys else nb (dotted a)).map V.str)); rw [e0]; exact hc3)
   have htl : ((as.map dotted).take i).length <= 12 := le_trans (length_take_le' _ _) hzl
   refine ⟨_, rfl, _, rfl, N, _, rfl, n8.k (k := .inr (dotted a)) hk1 (lt_of_lt_of_le (show kvs.length < 1000 by omega) bH), ?_⟩
   rw [tk_ ha]
   refine ⟨_, _, rfl, (sm.trans s3).over hN0, by rw [aF hNB.symm]; exact s3 _ _ hB', lk4, fun j b hj hb => ?_⟩
   by_cases e : dotted b = dotted a
   ·have hji : j = i := Classical.byContradiction fun k => zV g.nd hb ha k e
    subst hji
    rw [ha] at hb
    cases hb
    show (if dotted a = dotted a then ys else nb (dotted a)).Perm _ /\ sortedS (if dotted a = dotted a then ys else nb (dotted a)) = true
    rw [e0]
    exact ⟨hy1, hy2⟩
   ·show (if dotted b = dotted a then ys else nb (dotted b)).Perm _ /\ sortedS (if dotted b = dotted a then ys else nb (dotted b)) = true
    rw [if_neg e]
    refine hnb j b ?_ hb
    have : j ≠ i := fun z => by rw [z, ha] at hb; cases hb; exact e rfl
    omega
  ·rintro σ H3 ⟨v4, nb, rfl, sm3, hB3, lk, hnb⟩
   rw [length_map, take_length] at lk
   have hnbk : uJ as rs nb := fun i a ha => hnb i a (by rw [length_map, length_map]; exact (List.getElem?_eq_some_iff.mp ha).1) ha
   clear hnb
   have gr := hnbk.gr g
   have lkm := lk.without hB3 hNB
   have smm : au H (without H3 B) := au.without sm3 hB
   have hBm : (without H3 B) B = none := qW _ _
   have s3m : au (without H3 B) H3 := ou _ _
   generalize without H3 B = Hm at lkm smm hBm s3m
   refine ⟨_, rfl, la, rfl, ⟨_, SqL.of (sm3 _ _ hla)⟩, ?_⟩
   refine bI (xs := (as.map dotted).map V.str) (fun i σ H' => ∃ v4 v5 v6, ∃ bh : Str -> List Str, σ = [some (.ref la), some (.ref R), some (.ref B), some (.ref N), v4, v5, v6] /\ au Hm H' /\ dw H' B ((as.map dotted).take i) bh /\ vy ((as.map dotted).take i) nb bh)
    ⟨_, _, _, (fun _ => []), rfl, s3m, ⟨[], hB3, rfl, (fun z hz => by cases hz)⟩, (fun z hz => by cases hz)⟩ ?_ ?_ ?_
   ·rintro i σ H' _ ⟨v4, v5, v6, bh, rfl, sm, _⟩
    exact SqL.of ((smm.trans sm) _ _ hla)
   ·rintro i v σ H' hv ⟨v4, v5, v6, bh, rfl, sm, lb, hbh⟩
    obtain ⟨a, ha, rfl⟩ := at_ hv
    have haz : dotted a ∈ as.map dotted := mem_map.mpr ⟨a, mem_of_getElem? ha, rfl⟩
    obtain ⟨ln, dgs, hln⟩ := lkm.gets haz
    refine ⟨_, rfl, _, rfl, N, _, rfl, dgs _ sm, ln, _, rfl, .inl (SqL.of (sm _ _ hln)), fun F hF => ?_⟩
    have s4 : au H' (upd H' F (.lst ((nb (dotted a)).map V.str))) := au.new hF
    have hF4 : (upd H' F (.lst ((nb (dotted a)).map V.str))) F = some (.lst ((nb (dotted a)).map V.str)) := ak
    have hF0 : Hm F = none := sm.free hF
    have lb4 := lb.same s4
    generalize upd H' F (.lst ((nb (dotted a)).map V.str)) = H4 at s4 hF4 lb4
    have sm4 := sm.trans s4
    refine ⟨fun m σ H' => Mq Hm la R B N (some (.str (dotted a))) (dotted a) (as.map dotted) nb m σ H' /\ dw H' B ((as.map dotted).take i) bh, ⟨_, ⟨F, nb (dotted a), 0, rfl, sm4, hF0, hF4, gr.nn _ haz, fun x hx => .one hx, fun y hy => hy, zero_le _, (fun j x hj => absurd hj (not_lt_zero _)), rfl⟩, lb4⟩, ?_⟩
    clear hF4 hF0 lb4 sm4 s4 hF lb
    rintro m σ H5 ⟨⟨F, fs, k, rfl, sm5, hF0, hF5, hnd, hre, hnb, hkf, hcl, rfl⟩, lb5⟩
    have hfz : ∀ x ∈ fs, x ∈ as.map dotted := fun x hx => (hre x hx).mem gr haz
    have hfl : fs.length <= 12 := le_trans (qN hnd hfz) hzl
    refine ⟨_, rfl, _, rfl, F, _, rfl, .inl (SqL.of hF5), _, _, rfl, rfl, _, rfl, gj (fun hlt => ?_) (fun hge => ?_)⟩
    ·have hlt : k < fs.length := by rw [length_map] at hlt; omega
     refine ⟨fun σ' H'' => ∃ m', m' < 13 - k /\ Mq Hm la R B N (some (.str (dotted a))) (dotted a) (as.map dotted) nb m' σ' H'' /\ dw H'' B ((as.map dotted).take i) bh, fun _ _ z => z, ?_⟩
     have ek : fs[k]? = some fs[k] := getElem?_eq_getElem hlt
     have hxz := hfz _ (getElem_mem hlt)
     have hxr := hre _ (getElem_mem hlt)
     generalize fs[k] = x at ek hxz hxr
     have eat : atI (fs.map V.str) (k : Int) = some (V.str x) := bf (by rw [getElem?_map, ek]; rfl)
     obtain ⟨lx, dgx, hlx⟩ := lkm.gets hxz
     have hfl2 : ∀ zs : List Str, (zs.map V.str).all cW = true := dB
     have hnl := gr.len hxz
     refine ⟨_, rfl, _, rfl, _, rfl, _, rfl, F, _, _, _, rfl, rfl, SqL.of hF5, eat, N, _, rfl, dgx _ sm5, lx, rfl, ⟨_, SqL.of (sm5 _ _ hlx)⟩, bD (xs := (nb x).map V.str) (fun v => !inV v (fs.map V.str)) (le_trans (show ((nb x).map V.str).length <= 12 by rw [length_map]; exact hnl) Z0) (SqL.of (sm5 _ _ hlx)) (fun v H' Q' hv sv kk => ?_) (fun v H' Q' hv sv kk => ?_) (fun H6 s6 d hd => ?_)⟩
     ·obtain ⟨y, _, rfl⟩ := mem_map.mp hv
      exact ⟨_, rfl, _, rfl, F, _, rfl, .inl (SqL.of (sv _ _ hF5)), rfl, hfl2 _, _, rfl, kk H' (au.refl _)⟩
     ·exact ⟨_, rfl, kk H' (au.refl _)⟩
     have ef : ((nb x).map V.str).filter (fun v => !inV v (fs.map V.str)) = ((nb x).filter fun y => !decide (y ∈ fs)).map V.str := by
      rw [c7]
      congr 1
      exact filter_congr fun y _ => by rw [ie]
     rw [ef]
     have hml : ((nb x).filter fun y => !decide (y ∈ fs)).length <= 12 := le_trans (length_filter_le _ _) hnl
     have s7 : au H5 (upd H6 d (.lst (((nb x).filter fun y => !decide (y ∈ fs)).map V.str))) := s6.put hd
     have hd7 : (upd H6 d (.lst (((nb x).filter fun y => !decide (y ∈ fs)).map V.str))) d = some (.lst (((nb x).filter fun y => !decide (y ∈ fs)).map V.str)) := ak
     have hmem : ∀ y, y ∈ ((nb x).filter fun y => !decide (y ∈ fs)) ↔ y ∈ nb x /\ y ∉ fs := fun y => by rw [mem_filter]; simp
     have hmn : ((nb x).filter fun y => !decide (y ∈ fs)).Nodup := (gr.nn x hxz).filter _
     generalize ((nb x).filter fun y => !decide (y ∈ fs)) = ms at s7 hd7 hmem hmn hml
     generalize upd H6 d (.lst (ms.map V.str)) = H7 at s7 hd7
     refine ⟨F, d, _, _, rfl, rfl, s7 _ _ hF5, hd7, le_trans (show (fs.map V.str).length + (ms.map V.str).length <= 30 by rw [length_map, length_map]; omega) Z0, fun G hG => ?_⟩
     have s8 : au H5 (upd H7 G (.lst (fs.map V.str ++ ms.map V.str))) := s7.put hG
     have hG8 : (upd H7 G (.lst (fs.map V.str ++ ms.map V.str))) G = some (.lst ((fs ++ ms).map V.str)) := ak.trans (by rw [map_append])
     have hG0 : Hm G = none := (sm5.trans s7).free hG
     generalize upd H7 G (.lst (fs.map V.str ++ ms.map V.str)) = H8 at s8 hG8
     refine ⟨_, rfl, _, _, rfl, rfl, ?_⟩
     refine ⟨13 - (k + 1), Z1, ⟨G, fs ++ ms, k + 1, rfl, sm5.trans s8, hG0, hG8, ?_, fun y hy => ?_, fun y hy => mem_append_left _ (hnb y hy), by rw [length_append]; omega, fun j u hj eu y hy => ?_, rfl⟩, lb5.same s8⟩
     ·exact List.nodup_append.mpr ⟨hnd, hmn, fun u hu v hv e => ((hmem v).mp hv).2 (e ▸ hu)⟩
     ·rcases mem_append.mp hy with z | z
      ·exact hre y z
      ·exact .more hxr ((hmem y).mp z).1
     ·rw [getElem?_append_left Z1] at eu
      by_cases hjk : j = k
      ·subst hjk
       rw [ek] at eu
       cases eu
       by_cases hyf : y ∈ fs
       ·exact mem_append_left _ hyf
       ·exact mem_append_right _ ((hmem y).mpr ⟨hy, hyf⟩)
      ·exact mem_append_left _ (hcl j u Z1 eu y hy)
    ·have hke : k = fs.length := by rw [length_map] at hge; omega
     have hnew := new_ ha
     have e0 : (if dotted a = dotted a then fs else bh (dotted a)) = fs := if_pos rfl
     have lk3 : dw H5 B ((as.map dotted).take i) (fun z => if z = dotted a then fs else bh z) := lb5.but fun z hz => by
      show bh z = if z = dotted a then fs else bh z
      rw [if_neg (fun k : z = dotted a => hnew (k ▸ hz))]
     obtain ⟨kvs, hk1, hk2, lk4⟩ := lk3.more hnew (l := F) (by show H5 F = some (.lst ((if dotted a = dotted a then fs else bh (dotted a)).map V.str)); rw [e0]; exact hF5)
     have htl : ((as.map dotted).take i).length <= 12 := le_trans (length_take_le' _ _) hzl
     refine ⟨_, rfl, _, rfl, _, rfl, B, _, rfl, n8.k (k := .inr (dotted a)) hk1 (lt_of_lt_of_le (show kvs.length < 1000 by omega) bH), ?_⟩
     rw [tk_ ha]
     refine ⟨_, _, _, _, rfl, sm5.over hBm, lk4, fun z hz => ?_⟩
     by_cases e : z = dotted a
     ·subst e
      show (if dotted a = dotted a then fs else bh (dotted a)).Nodup /\ ∀ y, y ∈ (if dotted a = dotted a then fs else bh (dotted a)) ↔ _
      rw [e0]
      refine ⟨hnd, fun y => ⟨fun hy => hre y hy, fun hy => hy.in hnb fun u hu y hy => ?_⟩⟩
      obtain ⟨j, hj, ej⟩ := getElem_of_mem hu
      exact hcl j u Z1 (by rw [getElem?_eq_getElem hj, ej]) y hy
     ·show (if z = dotted a then fs else bh z).Nodup /\ ∀ y, y ∈ (if z = dotted a then fs else bh z) ↔ _
      rw [if_neg e]
      rcases mem_append.mp hz with k | k
      ·exact hbh z k
      ·exact absurd (mem_singleton.mp k) e
   ·rintro σ H' ⟨v4, v5, v6, bh, rfl, sm, lb, hbh⟩
    rw [length_map, take_length] at lb hbh
    exact ⟨_, rfl, q B H' nb bh hB (smm.trans sm) hnbk lb hbh⟩
theorem yj (T : Tx K mg C) (F : Fun K "_law_due" "_law_due" lQ f fd) : aM P w K mg base CX0 4 f fd zL Hu := by
 obtain ⟨fas, das, Aas⟩ := T.aas
 have Gas : aM P w K mg base CX0 3 fas das nY xN := tK T Aas.F
 obtain ⟨fac, dac, Aac⟩ := T.aac
 have Gac : aM P w K mg base CX0 2 fac dac nP rQ := oJ T Aac.F
 refine F.oq gC fun _ _ _ _ H _ Q E hr h => ?_
 ·obtain ⟨H0, la, R, as, L, rs, rfl, hla, g, hd, hok, q⟩ := h
  have hr2 : aP 2 _ := hr.mono Z0
  have hr3 : aP 3 _ := hr
  refine ⟨_, QSs.h (ao (aL (i := 2) gC.nd rfl (Or.inr rfl) (aR Aas Gas hr3 (aj (pv 0) (aj (pv 1) aq))))
   (ao (aL (i := 3) gC.nd rfl (Or.inl rfl) fu)
   (ao (bU PassesOwn.never rfl (aU (pv 0)) (aG (i := 4) gC.nd rfl (Or.inr rfl))
   (az (QS.mk (fQ (aP.u1 hr) (pv 3) (pv 4) (aR Aac Gac hr2 (aj (pv 4) (aj (pv 0) (aj (pv 1) aq)))) rfl))))
   (ao (aL (i := 5) gC.nd rfl (Or.inl rfl) (bz aq))
   (ao (bU PassesOwn.never rfl (aU (aX dU Z3 T.sorted boot_sorted (aj (pv 0) aq))) (aG (i := 4) gC.nd rfl (Or.inr rfl))
   (ao (aL (i := 6) gC.nd rfl (Or.inr rfl) (bG (N := ["_law_two", "_law_one", "_law_behind_here"]) [none, some 4, some 2] rfl Z5 (aU (pv 0)) (fun cl C fp s H => (aG (i := 0) (by decide +kernel : (["_law_two", "_law_one", "_law_behind_here"] : List Str).Nodup) rfl (Or.inl rfl))) (fun cl C fp s H => (fB (PW.pt (zY (aJ eN (pv 0) (pv 1) (aV _)) (vN (PW.pt (mV (aJ (lG (K := K) rfl) (pv 0) (cz (aP.u1 hr) (pv 2) (pv 1) (fun _ _ => rfl)) Z3) (lO (aJ (lG (K := K) rfl) (pv 1) (cz (aP.u1 hr) (pv 2) (pv 0) (fun _ _ => rfl)) Z3))))))))) (fun cl C fp s H => (pv 0))))
   (az (bJ (aJ (uy (K := K) rfl hr.units) (aX dU Z3 T.sorted boot_sorted (aj (pv 6) aq)) (pv 5) Z3) (az (bY (dq plainAttrs_list PySem.F.slot_list_append PySem.F.type_list_append dj (pv 5) (aj (aX dU Z3 T.sorted boot_sorted (aj (pv 6) aq)) aq)))) aW))))
   (ao (aL (i := 7) gC.nd rfl (Or.inl rfl) (bz aq))
   (ao (QS.mk (oE PassesOwn.never (aJ tU (aX aY Z3 T.len boot_len (aj (pv 7) aq)) (aX aY Z3 T.len boot_len (aj (pv 5) aq)) (aV _)) (QSs.h (ao (aL (i := 8) gC.nd rfl (Or.inr rfl) (bz aq))
   (ao (bU PassesOwn.never rfl (aU (pv 7)) (aG (i := 6) gC.nd rfl (Or.inr rfl))
   (az (aL (i := 8) gC.nd rfl (Or.inr rfl) (aQ mR (pv 8) (pv 6)))))
   (ao (aL (i := 9) gC.nd rfl (Or.inl rfl) (bz aq))
   (ao (bU PassesOwn.never rfl (aU (pv 5)) (aG (i := 6) gC.nd rfl (Or.inr rfl))
   (ao (aL (i := 10) gC.nd rfl (Or.inl rfl) (bz aq))
   (ao (bU PassesOwn.never rfl (aU (pv 6)) (aG (i := 4) gC.nd rfl (Or.inr rfl))
   (az (aL (i := 10) gC.nd rfl (Or.inl rfl) (aQ mR (pv 10) (cz (aP.u1 hr) (pv 3) (pv 4) (fun _ _ => rfl))))))
   (az (bJ (PW.pt (mV (aJ (uy (K := K) rfl hr.units) (pv 6) (pv 7) Z3) (lO (aJ (Cv (K := K) rfl hr.units) (bG (N := ["_law_two", "_law_knot", "_law_ahead"]) [none, some 6, some 8] rfl Z5 (aU (pv 10)) (fun cl C fp s H => (aG (i := 0) (by decide +kernel : (["_law_two", "_law_knot", "_law_ahead"] : List Str).Nodup) rfl (Or.inl rfl))) (fun cl C fp s H => (fB (aJ (pM (K := K) rfl) (pv 0) (aQ mR (pv 1) (pv 2)) Z3))) (fun cl C fp s H => (pv 0))) (bz aq) (aV _))))) (az (bY (dq plainAttrs_list PySem.F.slot_list_append PySem.F.type_list_append dj (pv 9) (aj (pv 6) aq)))) aW)))))
   (az (bY (dq plainAttrs_list PySem.F.slot_list_append PySem.F.type_list_append dj (pv 7) (aj (aX (Bb (K := K) rfl rfl hr.units) Z3 T.min boot_min (aj (pv 9) aq)) aq)))))))))))
   (az (aO (pv 7)))))))))), ?_⟩
  have h12 := g.hi
  have hzl : (as.map dotted).length <= 12 := by rw [length_map]; exact h12
  have hfl : ∀ zs : List Str, (zs.map V.str).all cW = true := dB
  have at_ : ∀ {zs : List Str} {i : Nat} {v : V}, (zs.map V.str)[i]? = some v -> ∃ x, zs[i]? = some x /\ v = V.str x := fun {zs i v} h => by
   rw [getElem?_map] at h
   cases e : zs[i]? with
   | none => rw [e] at h; cases h
   | some a => rw [e] at h; cases h; exact ⟨a, rfl, rfl⟩
  refine ⟨_, rfl, _, rfl, H0, la, R, as, L, rs, rfl, hla, g, hd, hok, fun Bh H1 nb bh hBh s1 hnb lb hbh => ?_⟩
  refine fun Nr hNr => ?_
  have hN2 : (upd H1 Nr (.dK [])) Nr = some (.dK []) := ak
  have s2 : au H1 (upd H1 Nr (.dK [])) := au.new hNr
  generalize upd H1 Nr (.dK []) = H2 at s2 hN2
  refine ⟨_, rfl, la, rfl, ⟨_, SqL.of ((s1.trans s2) _ _ hla)⟩, ?_⟩
  refine bI (xs := (as.map dotted).map V.str) (fun i σ H' => ∃ v4, ∃ nc : Str -> List Str, σ = [some (.ref la), some (.ref R), some (.ref Bh), some (.ref Nr), v4, none, none, none, none, none, none] /\ au H1 H' /\ dw H' Nr ((as.map dotted).take i) nc /\ ∀ (j : Nat) a, j < i -> as[j]? = some a -> (nc (dotted a)).Perm ((as.map dotted).filter fun y => decide (y ∈ kO a (rs j))) /\ sortedS (nc (dotted a)) = true)
   ⟨none, (fun _ => []), rfl, s2, ⟨[], hN2, rfl, (fun z hz => by cases hz)⟩, (fun j a hj => absurd hj (not_lt_zero _))⟩ ?_ ?_ ?_
  ·rintro i σ H' _ ⟨v4, nc, rfl, sm, _⟩
   exact SqL.of ((s1.trans sm) _ _ hla)
  ·rintro i v σ H' hv ⟨v4, nc, rfl, sm, lk, hnc⟩
   obtain ⟨a, ha, rfl⟩ : ∃ a, as[i]? = some a /\ v = V.str (dotted a) := by
    rw [getElem?_map, getElem?_map] at hv
    cases e : as[i]? with
    | none => rw [e] at hv; cases hv
    | some a => rw [e] at hv; cases hv; exact ⟨a, rfl, rfl⟩
   have sm0 := s1.trans sm
   refine ⟨_, rfl, _, rfl, _, rfl, H0, la, R, as, L, rs, i, a, rfl, sm0 _ _ hla, g, hd.same sm0, hok, ha, fun c H3 ys hc s3 hy1 hy2 hc3 => ?_⟩
   have hnew : dotted a ∉ (as.map dotted).take i := fun hm => by
    obtain ⟨j, hj, ej⟩ := getElem_of_mem hm
    have hji : j < i := lt_of_lt_of_le hj (length_take_le i _)
    have e2 : (as.map dotted)[j]? = some (dotted a) := by
     have := getElem?_eq_getElem hj
     rw [ej, getElem?_take] at this
     simpa [hji] using this
    have e1 : (as.map dotted)[i]? = some (dotted a) := by rw [getElem?_map, ha]; rfl
    have := (getElem?_inj (List.getElem?_eq_some_iff.mp e2).1 g.nd).mp (e2.trans e1.symm)
    omega
   have e0 : (if dotted a = dotted a then ys else nc (dotted a)) = ys := if_pos rfl
   have lk3 : dw H3 Nr ((as.map dotted).take i) (fun z => if z = dotted a then ys else nc z) := (lk.same s3).but fun z hz => by
    show nc z = if z = dotted a then ys else nc z
    rw [if_neg (fun k : z = dotted a => hnew (k ▸ hz))]
   obtain ⟨kvs, hk1, hk2, lk4⟩ := lk3.more hnew (l := c) (by show H3 c = some (.lst ((if dotted a = dotted a then ys else nc (dotted a)).map V.str)); rw [e0]; exact hc3)
   have htl : ((as.map dotted).take i).length <= 12 := le_trans (length_take_le' _ _) hzl
   refine ⟨_, rfl, _, rfl, Nr, _, rfl, n8.k (k := .inr (dotted a)) hk1 (lt_of_lt_of_le (show kvs.length < 1000 by omega) bH), ?_⟩
   rw [take_succ, getElem?_map, ha]
   refine ⟨_, _, rfl, (sm.trans s3).over hNr, lk4, fun j b hj hb => ?_⟩
   by_cases e : dotted b = dotted a
   ·have hji : j = i := Classical.byContradiction fun k => zV g.nd hb ha k e
    subst hji
    rw [ha] at hb
    cases hb
    show (if dotted a = dotted a then ys else nc (dotted a)).Perm _ /\ sortedS (if dotted a = dotted a then ys else nc (dotted a)) = true
    rw [e0]
    exact ⟨hy1, hy2⟩
   ·show (if dotted b = dotted a then ys else nc (dotted b)).Perm _ /\ sortedS (if dotted b = dotted a then ys else nc (dotted b)) = true
    rw [if_neg e]
    refine hnc j b ?_ hb
    have : j ≠ i := fun z => by rw [z, ha] at hb; cases hb; exact e rfl
    omega
  ·rintro σ H3 ⟨v4, nc, rfl, sm3, lkN, hnc⟩
   rw [length_map, take_length] at lkN
   have hnc : uJ as rs nc := fun i a ha => hnc i a (by rw [length_map, length_map]; exact (List.getElem?_eq_some_iff.mp ha).1) ha
   have s03 := s1.trans sm3
   refine ⟨by show 0 <= sizeLine; decide, fun So hSo => ?_⟩
   have hSo0 : H So = none := s03.free hSo
   have s34 : au H3 (upd H3 So (.lst [])) := au.new hSo
   have hSo4 : (upd H3 So (.lst [])) So = some (.lst []) := ak
   generalize upd H3 So (.lst []) = H4 at s34 hSo4
   refine ⟨_, rfl, la, as.map dotted, rfl, SqL.of ((s03.trans s34) _ _ hla), Z1, fun sl zs hz1 hz2 hsl => ⟨sl, rfl, ⟨_, SqL.of ak⟩, ?_⟩⟩
   have g0 := hnb.gr g
   have gz : Gr zs (cut zs nb) := (g0.perm hz1.symm).cut
   have hbz : vy zs (cut zs nb) bh := vy.cut g0 hbh hz1.symm
   have lkN : dw H3 Nr (as.map dotted) (cut zs nb) := lkN.but fun z hz => by rw [<- pK (hz1.mem_iff.mpr hz)]; exact Jd hnc hnb z hz
   have q := fun b H' h1 h2 => q b H' nb zs h1 h2 hnb hz1 hz2
   have lb3 := lb.same sm3
   clear hnc hnb hbh g0 lb
   generalize cut zs nb = nd at gz hbz lkN q
   have kg := gz.kgr
   have hzn := gz.nd
   have hslS : sl ≠ So := (aD hSo4 hsl).symm
   have s35 : au H3 (upd H4 sl (.lst (zs.map V.str))) := s34.put hsl
   have hsl5 : (upd H4 sl (.lst (zs.map V.str))) sl = some (.lst (zs.map V.str)) := ak
   have hSo5 : (upd H4 sl (.lst (zs.map V.str))) So = some (.lst []) := (au.new hsl) _ _ hSo4
   generalize upd H4 sl (.lst (zs.map V.str)) = H5 at s35 hsl5 hSo5
   refine bI (xs := zs.map V.str) (fun i σ H' => ∃ v4 v6, σ = [some (.ref la), some (.ref R), some (.ref Bh), some (.ref Nr), v4, some (.ref So), v6, none, none, none, none] /\ au H3 H' /\ H' sl = some (.lst (zs.map V.str)) /\ ∃ prs, H' So = some (.lst (refs prs)) /\ prs.map (·.2) = ((zs.take i).filter (isF zs (Rch nd))).map (kn zs nd) /\ lM H H' prs /\ ∀ pr ∈ prs, pr.1 ≠ So)
    ⟨_, _, rfl, s35, hsl5, [], hSo5, rfl, (fun pr hp => by cases hp), (fun pr hp => by cases hp)⟩ ?_ ?_ ?_
   ·rintro i σ H' _ ⟨v4, v6, rfl, sm, hs, _⟩
    exact SqL.of hs
   ·rintro i v σ H6 hv ⟨v4, v6, rfl, sm, hs, prs, hSo6, epr, hpa, hpS⟩
    obtain ⟨z, ez, rfl⟩ := at_ hv
    have hz := mem_of_getElem? ez
    have hza := hz1.mem_iff.mp hz
    obtain ⟨lz, dgz, hlz⟩ := lb3.gets hza
    have s06 := s03.trans sm
    refine ⟨_, rfl, la, rfl, ⟨_, SqL.of (s06 _ _ hla)⟩, bD (xs := (as.map dotted).map V.str) (onS (knB (Rch nd) z)) (le_trans (show ((as.map dotted).map V.str).length <= 12 by rw [length_map]; exact hzl) Z0) (SqL.of (s06 _ _ hla)) (fun v H' Q' hv sv k => ?_) (fun v H' Q' hv sv k => ?_) (fun H7 s7 kl hkl => ?_)⟩
    ·obtain ⟨y, hya, rfl⟩ := mem_map.mp hv
     have hy := hz1.mem_iff.mpr hya
     obtain ⟨ly, dgy, hly⟩ := lb3.gets hya
     have sv3 := sm.trans sv
     have kk : ∀ b, (b = true ↔ (y = z \/ (Rch nd z y /\ Rch nd y z))) -> Q' b H' := fun b e => by
      have : onS (knB (Rch nd) z) (.str y) = b := by
       show knB (Rch nd) z y = b
       exact Bool.eq_iff_iff.mpr (lW.trans e.symm)
      rw [<- this]
      exact k H' (au.refl _)
     refine ⟨_, rfl, _, rfl, rfl, _, rfl, ?_⟩
     by_cases e : y = z
     ·exact cU (decide_eq_true (by rw [e])) (kk true ⟨fun _ => .inl e, fun _ => rfl⟩)
     ·refine bj (decide_eq_false (fun k => e (V.str.inj k))) ?_
      refine ⟨_, rfl, _, rfl, _, rfl, Bh, _, rfl, dgz _ sv3, lz, _, rfl, .inl (SqL.of (sv3 _ _ hlz)), rfl, hfl _, _, rfl, ?_⟩
      by_cases h1 : y ∈ bh z
      ·refine cU (by rw [ie, decide_eq_true h1]; rfl) ?_
       refine ⟨_, rfl, _, rfl, _, rfl, Bh, _, rfl, dgy _ sv3, ly, _, rfl, .inl (SqL.of (sv3 _ _ hly)), rfl, hfl _, _, rfl, ?_⟩
       exact kk (inV (.str z) ((bh y).map V.str)) (by rw [ie, decide_eq_true_iff, (hbz y hy).2]; exact ⟨fun h2 => .inr ⟨((hbz z hz).2 y).mp h1, h2⟩, fun h => (h.resolve_left e).2⟩)
      ·exact bj (by rw [ie, decide_eq_false h1]; rfl) (kk false ⟨(fun w => Bool.noConfusion w), fun h => absurd (((hbz z hz).2 y).mpr (h.resolve_left e).1) h1⟩)
    ·exact ⟨_, rfl, k H' (au.refl _)⟩
    rw [n6]
    have hkll : ((as.map dotted).filter (knB (Rch nd) z)).length <= 12 := le_trans (length_filter_le _ _) hzl
    have s68 : au H6 (upd H7 kl (.lst (((as.map dotted).filter (knB (Rch nd) z)).map V.str))) := s7.put hkl
    have hkl8 : (upd H7 kl (.lst (((as.map dotted).filter (knB (Rch nd) z)).map V.str))) kl = some (.lst (((as.map dotted).filter (knB (Rch nd) z)).map V.str)) := ak
    generalize upd H7 kl (.lst (((as.map dotted).filter (knB (Rch nd) z)).map V.str)) = H8 at s68 hkl8
    have srt : ∀ {ys : List Str}, ys.Perm ((as.map dotted).filter (knB (Rch nd) z)) -> sortedS ys = true -> ys = kn zs nd z := fun h1 h2 => (ug hz1 hz2 h1 h2 fun _ _ => rfl).symm
    refine ⟨_, rfl, kl, _, rfl, SqL.of hkl8, Z1, fun c ys h1 h2 hc => ?_⟩
    obtain rfl := srt h1 h2
    have s69 : au H6 (upd H8 c (.lst ((kn zs nd z).map V.str))) := s68.put hc
    have hc9 : (upd H8 c (.lst ((kn zs nd z).map V.str))) c = some (.lst ((kn zs nd z).map V.str)) := ak
    have hkl9 := (au.new (o := .lst ((kn zs nd z).map V.str)) hc) _ _ hkl8
    generalize upd H8 c (.lst ((kn zs nd z).map V.str)) = H9 at s69 hc9 hkl9
    have ka9 : nH H H9 So (((zs.take i).filter (isF zs (Rch nd))).map (kn zs nd)) := ⟨prs, s69 _ _ hSo6, epr, hpa.same s69⟩
    refine ⟨_, rfl, c, So, _, _, rfl, rfl, SqL.of hc9, ka9.lss, _, rfl, ?_⟩
    have ezs := DW ez
    have stp := ks_step (as := zs.take i) (bs := zs.drop (i + 1)) (z := z) (nb := nd) (R := Rch nd) (by rw [<- ezs]; exact kg)
    rw [<- ezs] at stp
    have etk : (zs.take (i + 1)).filter (isF zs (Rch nd)) = (zs.take i).filter (isF zs (Rch nd)) ++ [z].filter (isF zs (Rch nd)) := by
     rw [take_succ, ez, filter_append]; rfl
    cases hF : isF zs (Rch nd) z with
    | true =>
     refine cU (by rw [decide_eq_false (stp.1 hF)]; rfl) ?_
     have hSo9 := s69 _ _ hSo6
     have hpl : prs.length <= 12 := by
      have := congrArg List.length epr
      rw [length_map, length_map] at this
      rw [this]
      exact le_trans (length_filter_le _ _) (le_trans (length_take_le' _ _) gz.hi)
     refine ⟨_, rfl, .inl ⟨rfl, _, SqL.of hSo9⟩, _, rfl, kl, _, rfl, SqL.of hkl9, Z1, fun c2 ys h3 h4 hc2 => ?_⟩
     obtain rfl := srt h3 h4
     have s6A : au H6 (upd H9 c2 (.lst ((kn zs nd z).map V.str))) := s69.put hc2
     have hcA : (upd H9 c2 (.lst ((kn zs nd z).map V.str))) c2 = some (.lst ((kn zs nd z).map V.str)) := ak
     generalize upd H9 c2 (.lst ((kn zs nd z).map V.str)) = HA at s6A hcA
     have hSoA := s6A _ _ hSo6
     have hc2S : c2 ≠ So := (aD hSo9 hc2).symm
     refine ⟨So, _, _, rfl, rfl, hSoA, lt_of_lt_of_le (show (refs prs).length < 1000 by rw [cD, length_map]; omega) bH, ?_⟩
     refine ⟨_, _, rfl, (sm.trans s6A).over hSo, by rw [aF hslS]; exact s6A _ _ hs, prs ++ [(c2, kn zs nd z)], ak.trans (by unfold refs; rw [map_append]; rfl), ?_, fun pr hp => ?_, fun pr hp => ?_⟩
     ·rw [map_append, epr, etk, map_append, filter_cons, if_pos hF]; rfl
     ·rcases mem_append.mp hp with u | u
      ·exact ⟨by rw [aF (hpS pr u)]; exact s6A _ _ (hpa pr u).1, (hpa pr u).2⟩
      ·rw [mem_singleton.mp u]
       exact ⟨by show (upd HA So _) c2 = _; rw [aF hc2S]; exact hcA, (s06.trans s69).free hc2⟩
     ·rcases mem_append.mp hp with u | u
      ·exact hpS pr u
      ·rw [mem_singleton.mp u]; exact hc2S
    | false =>
     refine bj (by rw [decide_eq_true (stp.2 hF)]; rfl) ?_
     refine ⟨_, _, rfl, sm.trans s69, s69 _ _ hs, prs, s69 _ _ hSo6, ?_, hpa.same s69, hpS⟩
     rw [epr, etk, filter_cons, if_neg (by rw [hF]; decide)]
     simp
   ·rintro σ H6 ⟨v4, v6, rfl, sm, hs, prs, hSo6, epr, hpa, hpS⟩
    rw [length_map, take_length] at epr
    have epr : prs.map (·.2) = kss zs nd := epr
    have hkl := vg gz
    have hpl : prs.length <= 12 := by have := congrArg List.length epr; rw [length_map] at this; omega
    refine ⟨by show 0 <= sizeLine; decide, fun Fo hFo => ?_⟩
    have hFo0 : H Fo = none := (s03.trans sm).free hFo
    have lkN6 := lkN.same sm
    have s06 := s03.trans sm
    have hinK : ∀ pr ∈ prs, pr.2 ∈ kss zs nd := fun pr hp => by rw [<- epr]; exact mem_map.mpr ⟨pr, hp, rfl⟩
    refine ⟨JQ H6 la R Bh Nr So Fo zs nd prs, ⟨_, 0, _, _, none, none, none, [], rfl, au.new hFo, zero_le _, rfl, ak, (fun pr hp => by cases hp), rfl⟩, ?_⟩
    rintro m σ H7 ⟨i, v4, v6, v8, v9, v10, fp, rfl, s7, hi, rfl, hFo7, hfp, efp⟩
    have r := pG kg hi
    have hfpl : fp.length = i := by have := congrArg List.length efp; rw [length_map, r.len] at this; exact this
    refine ⟨_, rfl, Fo, _, rfl, .inl (SqL.of hFo7), _, rfl, So, _, rfl, .inl (SqL.of (s7 _ _ hSo6)), _, _, rfl, rfl, _, rfl, gj (fun hlt => ?_) (fun hge => ?_)⟩
    ·have hlt : i < (kss zs nd).length := by
      rw [cD, cD, efp, epr, r.len] at hlt
      omega
     refine ⟨fun σ' H'' => ∃ m', m' < (kss zs nd).length - i /\ JQ H6 la R Bh Nr So Fo zs nd prs m' σ' H'', fun _ _ z => z, ?_⟩
     obtain ⟨t, ec⟩ := rE kg r hlt
     have hfpa : ∀ {H' : Hp}, au H6 H' -> lM H H' fp := fun s => (hpa.same s).sub hfp
     have hahl := ur gz hi
     refine ⟨by show 0 <= sizeLine; decide, fun A0 hA0 => ?_⟩
     have s8 : au H7 (upd H7 A0 (.lst [])) := au.new hA0
     have hA8 : (upd H7 A0 (.lst [])) A0 = some (.lst []) := ak
     generalize upd H7 A0 (.lst []) = H8 at s8 hA8
     refine ⟨_, rfl, Fo, rfl, ⟨_, SqL.of (s8 _ _ hFo7)⟩, ?_⟩
     refine bI (xs := refs fp) (fun j σ H' => ∃ v6 A, σ = [some (.ref la), some (.ref R), some (.ref Bh), some (.ref Nr), v4, some (.ref So), v6, some (.ref Fo), some (.ref A), v9, v10] /\ au H7 H' /\ H' A = some (.lst (((fp.take j).map (·.2)).flatten.map V.str))) ⟨_, A0, rfl, s8, hA8⟩ ?_ ?_ ?_
     ·rintro j σ H' _ ⟨v6, A, rfl, sj, _⟩
      exact SqL.of (sj _ _ hFo7)
     ·rintro j v σ H9 hv ⟨v6, A, rfl, sj, hA⟩
      obtain ⟨pr, ep, rfl⟩ := vh hv
      have hpr := mem_of_getElem? ep
      have hb := (hfpa (s7.trans sj) pr hpr).1
      have hb12 := (nD gz (hinK pr (hfp pr hpr))).1
      have hal : ((fp.take j).map (·.2)).flatten.length <= 144 := by
       have h1 := o5 (n := 12) (l := (fp.take j).map (·.2)) fun k hk => by
        obtain ⟨p2, h2, rfl⟩ := mem_map.mp hk
        exact (nD gz (hinK p2 (hfp p2 (mem_of_mem_take h2)))).1
       rw [length_map] at h1
       have := length_take_le' j fp
       omega
      refine ⟨_, rfl, _, rfl, A, pr.1, _, _, rfl, rfl, hA, hb, le_trans (show _ <= 1000 by rw [length_map, length_map]; omega) dC, fun A2 hA2 => ?_⟩
      refine ⟨_, A2, rfl, sj.put hA2, ak.trans ?_⟩
      rw [take_succ, ep]
      simp
     ·rintro σ H9 ⟨v6, A, rfl, s9, hA9⟩
      have hA9 : H9 A = some (.lst ((run nd (kss zs nd) i).flatten.map V.str)) := by
       rw [hA9]
       unfold refs
       rw [length_map, take_length, efp]
      have ec2 := ec
      have hdn := efp
      generalize hdd : run nd (kss zs nd) i = dn at *
      refine ⟨by show 0 <= sizeLine; decide, fun M hM => ?_⟩
      have hM6 : H6 M = none := (s7.trans s9).free hM
      have s9A : au H9 (upd H9 M (.lst [])) := au.new hM
      have hMA : (upd H9 M (.lst [])) M = some (.lst []) := ak
      generalize upd H9 M (.lst []) = HA at s9A hMA
      have s69 := s7.trans s9
      have hSo9 := s69 _ _ hSo6
      let cM : List Str -> Bool := fun k => @decide (k ∉ dn /\ may nd dn.flatten k) (Classical.propDecidable _)
      have hcM : ∀ k, cM k = true ↔ (k ∉ dn /\ may nd dn.flatten k) := fun k => @decide_eq_true_iff _ (Classical.propDecidable _)
      have ecand : (prs.filter fun pr => cM pr.2).map (·.2) = mz nd (kss zs nd) dn := by
       rw [lF, epr]
       exact Gw hcM
      clear_value cM
      refine ⟨_, rfl, So, rfl, ⟨_, SqL.of (s9A _ _ hSo9)⟩, ?_⟩
      refine bI (xs := refs prs) (fun j σ H' => ∃ v4 v6 v10, σ = [some (.ref la), some (.ref R), some (.ref Bh), some (.ref Nr), v4, some (.ref So), v6, some (.ref Fo), some (.ref A), some (.ref M), v10] /\ au H9 H' /\ H' M = some (.lst (refs ((prs.take j).filter fun pr => cM pr.2)))) ⟨_, _, _, rfl, s9A, hMA⟩ ?_ ?_ ?_
      ·rintro j σ H' _ ⟨v4, v6, v10, rfl, sj, _⟩
       exact SqL.of (sj _ _ hSo9)
      ·rintro j v σ HB hv ⟨v4, v6, v10, rfl, sB, hMB⟩
       obtain ⟨pr, ep, rfl⟩ := vh hv
       have hpr := mem_of_getElem? ep
       obtain ⟨hk12, hkz⟩ := nD gz (hinK pr hpr)
       have hpb : ∀ {H' : Hp}, au HB H' -> H' pr.1 = some (.lst (pr.2.map V.str)) := fun s => (hpa.same (s69.trans (sB.trans s)) pr hpr).1
       refine ⟨by show 0 <= sizeLine; decide, fun F0 hF0 => ?_⟩
       have sBC : au HB (upd HB F0 (.lst [])) := au.new hF0
       have hFC : (upd HB F0 (.lst [])) F0 = some (.lst []) := ak
       generalize upd HB F0 (.lst []) = HC at sBC hFC
       refine ⟨_, rfl, pr.1, rfl, ⟨_, SqL.of (hpb sBC)⟩, ?_⟩
       refine bI (xs := pr.2.map V.str) (fun t σ H' => ∃ v4 F, σ = [some (.ref la), some (.ref R), some (.ref Bh), some (.ref Nr), v4, some (.ref So), some (.ref pr.1), some (.ref Fo), some (.ref A), some (.ref M), some (.ref F)] /\ au HB H' /\ H' F = some (.lst (((pr.2.take t).flatMap nd).map V.str))) ⟨_, F0, rfl, sBC, hFC⟩ ?_ ?_ ?_
       ·rintro t σ H' _ ⟨v4, F, rfl, st, _⟩
        exact SqL.of (hpb st)
       ·rintro t v σ HD hv ⟨v4, F, rfl, st, hF⟩
        obtain ⟨x, ex, rfl⟩ := at_ hv
        have hxz := hkz x (mem_of_getElem? ex)
        obtain ⟨lx, dgx, hlx⟩ := (lkN6.same (s69.trans (sB.trans st))).get (hz1.mem_iff.mp hxz)
        have hx12 := gz.len hxz
        have hfl2 : ((pr.2.take t).flatMap nd).length <= 144 := by
         have h1 := kJ (nb := nd) (n := 12) (k := pr.2.take t) fun y hy => gz.len (hkz y (mem_of_mem_take hy))
         have := length_take_le' t pr.2
         omega
        refine ⟨_, rfl, _, rfl, _, rfl, Nr, _, rfl, dgx, F, lx, _, _, rfl, rfl, hF, hlx, le_trans (show _ <= 1000 by rw [length_map, length_map]; omega) dC, fun F2 hF2 => ?_⟩
        refine ⟨_, F2, rfl, st.put hF2, ak.trans ?_⟩
        rw [take_succ, ex]
        simp
       ·rintro σ HD ⟨v4, F, rfl, sD, hFD⟩
        rw [length_map, take_length] at hFD
        have hfar : (pr.2.flatMap nd).length <= 144 := by
         have h1 := kJ (nb := nd) (n := 12) (k := pr.2) fun y hy => gz.len (hkz y hy)
         omega
        have sBD := sB.trans sD
        have ls : zy K HD Fo dn := (nH.lss (H0 := H) ⟨fp, (s9.trans sBD) _ _ hFo7, hdn, hfpa (s69.trans sBD)⟩)
        have etk : (prs.take (j + 1)).filter (fun pr => cM pr.2) = (prs.take j).filter (fun pr => cM pr.2) ++ [pr].filter (fun pr => cM pr.2) := by
         rw [take_succ, ep, filter_append]; rfl
        have no_ : cM pr.2 = false -> refs ((prs.take j).filter fun pr => cM pr.2) = refs ((prs.take (j + 1)).filter fun pr => cM pr.2) := fun h => by
         rw [etk, filter_cons, if_neg (by rw [h]; decide)]
         simp
        refine ⟨_, rfl, _, rfl, pr.1, Fo, pr.2, dn, rfl, rfl, SqL.of (hpb sD), ls, _, rfl, ?_⟩
        by_cases hin : pr.2 ∈ dn
        ·refine bj (by rw [decide_eq_true hin]; rfl) (qg ⟨_, _, _, rfl, sBD, ?_⟩)
         rw [<- no_ (eq_false_iff.mpr fun z => ((hcM _).mp z).1 hin)]
         exact sD _ _ hMB
        ·refine cU (by rw [decide_eq_false hin]; rfl) ?_
         refine ⟨_, rfl, F, rfl, ⟨_, SqL.of hFD⟩, bD (xs := (pr.2.flatMap nd).map V.str) (onS fun y => !decide (y ∈ pr.2 ++ dn.flatten)) (le_trans (show ((pr.2.flatMap nd).map V.str).length <= 144 by rw [length_map]; exact hfar) Z0) (SqL.of hFD) (fun v H' Q' hv sv k => ?_) (fun v H' Q' hv sv k => ?_) (fun HE sE fl hfl2 => ?_)⟩
         ·obtain ⟨y, hy, rfl⟩ := mem_map.mp hv
          refine ⟨_, rfl, _, rfl, _, rfl, pr.1, A, _, _, rfl, rfl, hpb (sD.trans sv), (sBD.trans sv) _ _ hA9, le_trans (show _ <= 1000 by rw [length_map, length_map]; omega) dC, fun p hp => ?_⟩
          have e1 : pr.2.map V.str ++ dn.flatten.map V.str = (pr.2 ++ dn.flatten).map V.str := by rw [map_append]
          rw [e1]
          refine ⟨p, _, rfl, .inl (SqL.of ak), rfl, hfl _, _, rfl, ?_⟩
          have := k (upd H' p (.lst ((pr.2 ++ dn.flatten).map V.str))) (au.new hp)
          rw [ie]
          exact this
         ·exact ⟨_, rfl, k H' (au.refl _)⟩
         rw [n6]
         have sDF : au HD (upd HE fl (.lst (((pr.2.flatMap nd).filter fun y => !decide (y ∈ pr.2 ++ dn.flatten)).map V.str))) := sE.put hfl2
         have hflF : (upd HE fl (.lst (((pr.2.flatMap nd).filter fun y => !decide (y ∈ pr.2 ++ dn.flatten)).map V.str))) fl = some (.lst (((pr.2.flatMap nd).filter fun y => !decide (y ∈ pr.2 ++ dn.flatten)).map V.str)) := ak
         generalize upd HE fl (.lst (((pr.2.flatMap nd).filter fun y => !decide (y ∈ pr.2 ++ dn.flatten)).map V.str)) = HF at sDF hflF
         refine ⟨by show 0 <= sizeLine; decide, fun e he => ⟨fl, e, _, rfl, rfl, SqL.of ((au.new he) _ _ hflF), SqL.of ak, _, rfl, ?_⟩⟩
         have sDG : au HD (upd HF e (.lst [])) := sDF.put he
         generalize upd HF e (.lst []) = HG at sDG
         have eE : ((((pr.2.flatMap nd).filter fun y => !decide (y ∈ pr.2 ++ dn.flatten)).map V.str).isEmpty == true) = (((pr.2.flatMap nd).filter fun y => !decide (y ∈ pr.2 ++ dn.flatten)).isEmpty == true) := by
          cases ((pr.2.flatMap nd).filter fun y => !decide (y ∈ pr.2 ++ dn.flatten)) <;> rfl
         rw [eE]
         have sBG := sD.trans sDG
         by_cases hm : may nd dn.flatten pr.2
         ·refine cU (Aa.mpr hm) ?_
          have hMG := sBG _ _ hMB
          refine ⟨_, rfl, .inl ⟨rfl, _, SqL.of hMG⟩, _, rfl, M, _, _, rfl, rfl, hMG, lt_of_lt_of_le (show (refs ((prs.take j).filter fun pr => cM pr.2)).length < 1000 by
           rw [cD, length_map]
           have h1 := length_filter_le (fun pr : Addr × List Str => cM pr.2) (prs.take j)
           have h2 := length_take_le' j prs
           omega) bH, ?_⟩
          refine ⟨_, _, _, rfl, (sB.trans sBG).over hM, ak.trans ?_⟩
          rw [etk, filter_cons, if_pos ((hcM _).mpr ⟨hin, hm⟩)]
          unfold refs
          rw [map_append]
          rfl
         ·refine bj (eq_false_iff.mpr fun z => hm (Aa.mp z)) ⟨_, _, _, rfl, sB.trans sBG, ?_⟩
          rw [<- no_ (eq_false_iff.mpr fun z => hm ((hcM _).mp z).2)]
          exact sBG _ _ hMB
      ·rintro σ HB ⟨v4, v6, v10, rfl, sB, hMB⟩
       have hMB : HB M = some (.lst (refs (prs.filter fun pr => cM pr.2))) := by
        rw [hMB]
        unfold refs
        rw [length_map, take_length]
       have esub : ∀ pr ∈ (prs.filter fun pr => cM pr.2), pr ∈ prs := fun pr hp => (mem_filter.mp hp).1
       rw [ec] at ecand
       generalize (prs.filter fun pr => cM pr.2) = ms at hMB ecand esub
       obtain ⟨fr, ft, rfl⟩ : ∃ fr ft, ms = fr :: ft := by
        cases ms with
        | nil => cases ecand
        | cons a b => exact ⟨a, b, rfl⟩
       have efr : fr.2 = nxt nd (kss zs nd) dn := (List.cons.inj ecand).1
       have eft : ft.map (·.2) = t := (List.cons.inj ecand).2
       obtain ⟨x0, hx0, hx1⟩ := yh (Gy hz2 hzn) ec
       rw [<- efr] at hx0
       have s6B := s69.trans sB
       have hpB := hpa.same s6B
       obtain ⟨t0, et0⟩ := um hx0
       have hfrB : HB fr.1 = some (.lst (V.str x0 :: t0)) := by rw [<- et0]; exact (hpB fr (esub fr Z2)).1
       have hFoB := (s9.trans sB) _ _ hFo7
       refine ⟨_, rfl, .inl ⟨rfl, _, SqL.of hFoB⟩, _, rfl, M, fr.1, refs ft, x0, t0, rfl, SqL.of hMB, SqL.of hfrB, fun v hv => ?_, Fo, _, _, rfl, rfl, hFoB, lt_of_lt_of_le (show (refs fp).length < 1000 by rw [cD, length_map]; omega) bH, ?_⟩
       ·obtain ⟨pr, hpr, rfl⟩ := rK hv
        obtain ⟨y, hy1, hy2, hy3⟩ := hx1 pr.2 (by rw [<- eft]; exact mem_map.mpr ⟨pr, hpr, rfl⟩)
        obtain ⟨ty, ety⟩ := um hy1
        refine ⟨pr.1, y, ty, rfl, SqL.of ?_, hy2, hy3⟩
        rw [<- ety]
        exact (hpB pr (esub pr (mem_cons_of_mem _ hpr))).1
       ·refine ⟨(kss zs nd).length - (i + 1), Z1, i + 1, _, _, _, _, _, fp ++ [fr], rfl, s6B.over hFo, hlt, rfl, ak.trans (by unfold refs; rw [map_append]; rfl), fun pr hp => ?_, ?_⟩
        ·rcases mem_append.mp hp with u | u
         ·exact hfp pr u
         ·rw [mem_singleton.mp u]; exact esub fr Z2
        ·rw [map_append, hdn, List.map_singleton, efr, <- hdd]
         rfl
    ·have hin : i = (kss zs nd).length := by
      rw [cD, cD, efp, epr, r.len] at hge
      omega
     refine ⟨_, rfl, q Fo H7 hFo0 (s06.trans s7) ⟨fp, hFo7, ?_, (hpa.same s7).sub hfp⟩⟩
     rw [efp, hin]
     rfl
theorem xG (T : Tx K mg C) (F : Fun K "_law_long" "_law_long" jo f fd) : aM P w K mg base CX0 2 f fd vf (Ej K) := by
 obtain ⟨fab, dab, Aab⟩ := T.aab
 have Gab : aM P w K mg base CX0 1 fab dab pB (qF K) := uC Aab.F T.len
 obtain ⟨faa, daa, Aaa⟩ := T.aaa
 have Gaa : aM P w K mg base CX0 1 faa daa iW lC := jY Aaa.F
 refine F.oq pL fun _ _ _ _ H _ Q E hr h => ?_
 ·obtain ⟨S, lw, ns, ws, rfl, hS, hlw, hw8, hwn, q⟩ := h
  have hr1 : aP 1 _ := hr
  refine ⟨_, QSs.h (ao (aL (i := 2) pL.nd rfl (Or.inl rfl) (aR Aab Gab hr1 (aj (pv 0) (aj aA aq))))
   (ao (iG (N := ["_law_one", "_law_words_here"]) [none, some 1] (i := 3) pL.nd rfl (Or.inl rfl) rfl Z5 (JF aK) (fun cl C fp s H => (aG (i := 0) (by decide +kernel : (["_law_one", "_law_words_here"] : List Str).Nodup) rfl (Or.inl rfl))) (fun cl C fp s H => eU) (fun cl C fp s H => (aQ bw (gm JG (bW (wj (K := K) rfl) (pv 1) aA (fun _ _ => rfl)) lN (dZ aA)) (pv 0))))
   (ao (aL (i := 4) pL.nd rfl (Or.inl rfl) (bW bC (bz (aj aA (aj aA (aj aA (aj aA aq))))) (aR Aaa Gaa hr1 (aj (pv 2) (aj aA (aj aA aq)))) (fun _ _ => rfl)))
   (ao (aL (i := 5) pL.nd rfl (Or.inl rfl) fu)
   (ao (bU PassesOwn.never rfl (fM Z3 T.range (aj aA aq)) (aG (i := 6) pL.nd rfl (Or.inl rfl))
   (az (QS.mk (fQ (aP.u1 hr) (pv 5) (bW bC (pv 3) (pv 6) (fun _ _ => rfl)) (bz (aj (iu (aj (bW bC (bz (aj aK (aj aK aq))) (aR Aaa Gaa hr1 (aj (pv 2) (aj (aQ cR aA (pv 6)) (aj aA aq)))) (fun _ _ => rfl)) (aj aK (aj (bW bC (pv 3) (aQ jd (aQ cR (pv 6) (pv 4)) aA) (fun _ _ => rfl)) (aj aK aq))))) aq)) rfl))))
   (ao (bJ (aJ eN (aR Aaa Gaa hr1 (aj (pv 2) (aj aA (aj aA aq)))) aA (aV _)) (az (QS.mk (fQ (aP.u1 hr) (pv 5) (bW bC (pv 3) (aR Aaa Gaa hr1 (aj (pv 2) (aj aA (aj aA aq)))) (fun _ _ => rfl)) (bz aq) rfl))) aW)
   (az (aO (iu (aj (pv 3) (aj (pv 5) aq))))))))))), ?_⟩
  have hw0 : 0 < ws.length := by omega
  have ew0 : ws[0]? = some ws[0] := getElem?_eq_getElem hw0
  have nw := hwn _ (getElem_mem hw0)
  generalize ws[0] = w0 at ew0 nw
  have e0 : atI (ws.map V.str) 0 = some (V.str w0) := bf (j := 0) (by rw [getElem?_map, ew0]; rfl)
  have hp1 : ∀ n ∈ (Txt.slice w0 none (some 7)).cps.toList, 97 <= n /\ n <= 122 := fun n hn => nw.ok n (Ax hn)
  have hp2 := xT nw.hi
  refine ⟨_, rfl, S, ns, 3, rfl, hS, Z0, fun H1 s1 => ?_⟩
  generalize pP ns 3 = c
  refine ⟨_, rfl, CJ (fun cc => V.str (Txt.slice w0 none (some 7) ++ (⟨#[cc]⟩ : Str))) Z4 (fun cc H' Q' hc sm k => ?_) (fun H2 s2 la hla => ?_)⟩
  ·exact ⟨_, rfl, lw, _, _, _, rfl, rfl, SqL.of ((s1.trans sm) _ _ hlw), e0, _, rfl, w0, rfl, le_trans nw.hi Z0, _, rfl, _, _, rfl, rfl, abS hp2 (le_refl 1), k H' (au.refl _)⟩
  rw [Bm]
  generalize Txt.slice w0 none (some 7) = p at hp1 hp2
  have g := Bd hp1 hp2
  have s3 : au H (upd H2 la (.lst (((bT p).map dotted).map V.str))) := (s1.trans s2).put hla
  have hla3 : (upd H2 la (.lst (((bT p).map dotted).map V.str))) la = some (.lst (((bT p).map dotted).map V.str)) := ak
  generalize upd H2 la (.lst (((bT p).map dotted).map V.str)) = H3 at s3 hla3
  have aat : ∀ {i : Nat}, i < 12 -> atI (((bT p).map dotted).map V.str) (i : Int) = some (V.str (dotted [p ++ (⟨#[97 + i]⟩ : Str)])) := fun {i} hi => bf (by rw [getElem?_map, getElem?_map, nM p hi]; rfl)
  obtain ⟨st, hst0, hst⟩ := step_at c
  refine ⟨by show 4 <= sizeLine; decide, fun b hb => ⟨_, rfl, c, 0, 4, rfl, Z0, Z0, Z0, fun H4 s4 => ⟨b, _, _, _, rfl, rfl, SqL.of (s4 _ _ ak), hst, ?_⟩⟩⟩
  have s34 : au H3 H4 := (au.new hb).trans s4
  have hla4 := s34 _ _ hla3
  refine fun R hR => ?_
  have s5 : au H4 (upd H4 R (.dK [])) := au.new hR
  have hR5 : (upd H4 R (.dK [])) R = some (.dK []) := ak
  generalize upd H4 R (.dK []) = H5 at s5 hR5
  have hal : (bT p).length = 12 := wC p
  refine ⟨_, rfl, Z0, Z0, ?_⟩
  refine lY (fun i σ H' => ∃ v6 L, ∃ rs : Nat -> List Q4, σ = [some (.ref S), some (.ref lw), some (.int c), some (.ref la), some (.int st), some (.ref R), v6] /\ au H4 H' /\ DictAt H4 H' R (bT p) i L rs /\ du (bT p) rs)
   ⟨none, (fun _ => 0), (fun _ => []), rfl, s5, ⟨hR, (fun i hi => absurd hi (not_lt_zero _)), ⟨[], hR5, le_refl _, (fun i a hi => absurd hi (not_lt_zero _))⟩, (fun i hi => absurd hi (not_lt_zero _)), (fun i j hi => absurd hi (not_lt_zero _))⟩, ⟨(fun i _ => zero_le _), (fun i _ d hd => by cases hd), (fun i a _ d hd => by cases hd)⟩⟩ ?_ ?_
  ·rintro i σ H6 hi ⟨v6, L, rs, rfl, sm, hd, hok⟩
   have hi : i < 12 := hi
   obtain ⟨so, hso, eso⟩ := DP c (1 + (0 + (i : Int)))
   have m1 : 0 <= (0 + (i : Int) + st) % 12 := emod_nonneg _ Z0
   have m2 : (0 + (i : Int) + st) % 12 < 12 := emod_lt_of_pos _ Z0
   have hj : ((0 + (i : Int) + st) % 12).toNat < 12 := by omega
   have ej := aat hj
   rw [show ((((0 + (i : Int) + st) % 12).toNat : Nat) : Int) = (0 + (i : Int) + st) % 12 from by omega] at ej
   have ei := aat hi
   rw [show ((i : Nat) : Int) = 0 + (i : Int) from by omega] at ei
   generalize ((0 + (i : Int) + st) % 12).toNat = j at hj ej
   refine ⟨by show 2 <= sizeLine; decide, fun b2 hb2 => ⟨_, rfl, _, rfl, _, _, rfl, rfl, c, 1 + (0 + (i : Int)), 2, rfl, Z1, Z1, Z0, fun H7 s7 => ⟨b2, _, _, _, rfl, rfl, SqL.of (s7 _ _ ak), eso, ?_⟩⟩⟩
   have s67 : au H6 H7 := (au.new hb2).trans s7
   refine ⟨_, rfl, _, rfl, _, rfl, _, _, rfl, rfl, _, _, rfl, rfl, by show (0 : Int) < 12; decide, la, _, _, _, rfl, rfl, SqL.of ((sm.trans s67) _ _ hla4), ej, by show 4 <= sizeLine; decide, fun tp htp => ⟨by show 1 <= sizeLine; decide, fun bl hbl => ?_⟩⟩
   have s69 : au H6 (upd (upd H7 tp (.tup [V.str (fG so), V.str "x", V.str (dotted [p ++ (⟨#[97 + j]⟩ : Str)]), V.str "y"])) bl (.lst [V.ref tp])) := (s67.put htp).put hbl
   have htb : gB (upd (upd H7 tp (.tup [V.str (fG so), V.str "x", V.str (dotted [p ++ (⟨#[97 + j]⟩ : Str)]), V.str "y"])) bl (.lst [V.ref tp])) bl [⟨so, "x", dotted [p ++ (⟨#[97 + j]⟩ : Str)], "y"⟩] := ⟨_, ak, rfl, fun k d e => by
    match k, e with
    | 0, e => cases e; exact ⟨tp, rfl, (au.new hbl) _ _ ak⟩
    | n + 1, e => simp at e⟩
   have hb6 : H6 bl = none := (s67.put htp).free hbl
   generalize upd (upd H7 tp (.tup [V.str (fG so), V.str "x", V.str (dotted [p ++ (⟨#[97 + j]⟩ : Str)]), V.str "y"])) bl (.lst [V.ref tp]) = H9 at s69 htb
   have hd9 := hd.same s69
   obtain ⟨kvs, hk9, _⟩ := hd9.dk
   obtain ⟨hkl, hd10⟩ := hd9.put g.nd (sm.free hb6) (fun k hk => by obtain ⟨xs, hx, _⟩ := hd.ts k hk; exact aD hx hb6) htb (nM p hi) (.inl ⟨rfl, rfl⟩) kvs hk9
   refine ⟨_, rfl, _, rfl, _, rfl, la, _, _, _, rfl, rfl, SqL.of ((sm.trans s69) _ _ hla4), ei, R, _, rfl, n8.k (k := .inr (dotted [p ++ (⟨#[97 + i]⟩ : Str)])) hk9 (lt_of_lt_of_le (show kvs.length < 1000 by omega) bH), ?_⟩
   refine ⟨_, _, _, rfl, (sm.trans s69).over hR, hd10, hok.set (nM p hi) (by show 1 <= 12; decide) (fun d hd => ?_) (fun d hd _ => Fw hp1 hp2 _ _)⟩
   rw [mem_singleton.mp hd]
   show G4 so "x" (dotted [p ++ (⟨#[97 + j]⟩ : Str)]) "y"
   exact ⟨Z1, fun _ => qJ Z4, fun z => by omega, .inr ⟨_, zA (vQ hp1 hp2 hj), rfl, qJ Z4⟩⟩
  ·rintro σ H6 ⟨v6, L, rs, rfl, sm, hd, hok⟩
   have hd : DictAt H4 H6 R (bT p) (bT p).length L rs := by rw [hal]; exact hd
   refine ⟨_, rfl, c, 20, 2, rfl, Z0, Z0, Z0, fun H7 s7 => ⟨rfl, _, rfl, gj (fun _ => ?_) (fun _ => ?_)⟩⟩
   ·have k1 := fc c 21 (m := 12) Z0
    have k2 := gb c 21 (m := 12) Z0
    refine ⟨by show 0 <= sizeLine; decide, fun b2 hb2 => ⟨_, rfl, _, rfl, _, rfl, c, 21, 12, rfl, Z0, Z0, Z0, fun H9 s9 => ?_⟩⟩
    generalize pick c 21 12 = kk at k1 k2
    have hj : kk.toNat < 12 := by omega
    have ej := aat hj
    rw [show ((kk.toNat : Nat) : Int) = kk from by omega] at ej
    have s79 : au H7 H9 := (au.new hb2).trans s9
    have hb9 : H9 b2 = some (.lst []) := s9 _ _ ak
    have hb6 : H6 b2 = none := s7.free hb2
    have s69 := s7.trans s79
    have hd9 := hd.same s69
    obtain ⟨kvs, hk9, _⟩ := hd9.dk
    have hjl : kk.toNat < (bT p).length := by rw [hal]; exact hj
    obtain ⟨hkl, hd10⟩ := hd9.put (ds := []) g.nd (sm.free hb6) (fun k hk => by obtain ⟨xs, hx, _⟩ := hd.ts k hk; exact aD hx hb6) ⟨[], hb9, rfl, fun k d e => by simp at e⟩ (nM p hj) (.inr ⟨hjl, rfl⟩) kvs hk9
    refine ⟨la, _, _, _, rfl, rfl, SqL.of ((sm.trans s69) _ _ hla4), ej, R, _, rfl, n8.k (k := .inr (dotted [p ++ (⟨#[97 + kk.toNat]⟩ : Str)])) hk9 (lt_of_lt_of_le (show kvs.length < 1000 by omega) bH), ?_⟩
    have s10 : au H4 (upd H9 R (.dK (putK kvs (.inr (dotted [p ++ (⟨#[97 + kk.toNat]⟩ : Str)])) (.ref b2)))) := (sm.trans s69).over hR
    have hok2 := hok.set (ds := []) (nM p hj) (zero_le _) (fun d hd => by cases hd) (fun d hd => by cases hd)
    generalize upd H9 R (.dK (putK kvs (.inr (dotted [p ++ (⟨#[97 + kk.toNat]⟩ : Str)])) (.ref b2))) = H10 at s10 hd10
    refine ⟨_, rfl, _, rfl, by show 2 <= sizeLine; decide, fun t ht => ?_⟩
    exact q t la R (bT p) _ _ H4 _ ak ((s3.trans (s34.trans s10)).put ht) ((s10.put ht) _ _ hla4) (by intro z; rw [z] at hal; cases hal) g (hd10.same (au.new ht)) hok2
   ·refine ⟨_, rfl, _, rfl, by show 2 <= sizeLine; decide, fun t ht => ?_⟩
    have s47 := sm.trans s7
    exact q t la R (bT p) L rs H4 _ ak ((s3.trans (s34.trans s47)).put ht) ((s47.put ht) _ _ hla4) (by intro z; rw [z] at hal; cases hal) g ((hd.same s7).same (au.new ht)) hok
theorem Ie (T : Tx K mg C) (F : Fun K "law" "law" EY f fd) : aM P w K mg base CX0 9 f fd Hr (zj K) := by
 obtain ⟨far, dar, Aar⟩ := T.aar
 have Gar : aM P w K mg base CX0 5 far dar vJ (wz K) := xg T Aar.F
 obtain ⟨fak, dak, Aak⟩ := T.aak
 have Gak : aM P w K mg base CX0 4 fak dak zL Hu := yj T Aak.F
 obtain ⟨fa5, da5, Aa5⟩ := T.aa5
 have Ga5 : aM P w K mg base CX0 2 fa5 da5 vf (Ej K) := xG T Aa5.F
 obtain ⟨fag, dag, Aag⟩ := T.aag
 have Gag : aM P w K mg base CX0 4 fag dag qw (yX C) := uE T Aag.F
 obtain ⟨faf, daf, Aaf⟩ := T.aaf
 have Gaf : aM P w K mg base CX0 7 faf daf oK (Af C) := Cg T Aaf.F
 obtain ⟨fah, dah, Aah, M_House⟩ := T.i_House
 have Gah : aM P w K mg base CX0 7 fah dah fX (Dd C) := my T Aah.F
 refine F.oq mK fun _ _ _ _ H _ Q E hr h => ?_
 ·obtain ⟨S, ns, rfl, hS, hlen, q⟩ := h
  have hr2 : aP 2 _ := hr.mono Z0
  have hr4 : aP 4 _ := hr.mono Z0
  have hr5 : aP 5 _ := hr.mono Z0
  have hr7 : aP 7 _ := hr.mono Z0
  have hr8 : aP 8 _ := hr
  refine ⟨_, QSs.h (ao (yK (aR Aar Gar hr5 (aj (pv 0) aq)) (nJ (K := K) (n := 3) rfl rfl (bN (aG (i := 1) mK.nd rfl (Or.inl rfl)) (bN (aG (i := 2) mK.nd rfl (Or.inl rfl)) (bN (aG (i := 3) mK.nd rfl (Or.inl rfl)) oX)))))
   (ao (aL (i := 4) mK.nd rfl (Or.inl rfl) (lg M_House Aah.b Gah hr8 T.c_House (aj (aR Aag Gag hr4 (aj (pv 2) (aj (pv 3) aq))) aq)))
   (ao (aL (i := 5) mK.nd rfl (Or.inl rfl) (aR Aak Gak hr4 (aj (pv 2) (aj (pv 3) aq))))
   (ao (bU PassesOwn.never rfl (fM Z3 T.range (aj aA aq)) (aG (i := 6) mK.nd rfl (Or.inl rfl))
   (ao (aL (i := 7) mK.nd rfl (Or.inl rfl) (aR Aaf Gaf hr7 (aj (pv 4) aq)))
   (ao (bJ (PW.pt (zY (IW (rW (aX Bl Z3 T.inst boot_isinstance (aj (pv 7) (aj (Fd (v := .ty "list") Z3 T.t_list boot_list rfl) aq))))) (vN (aJ (Di (K := K) rfl hr.units) (pv 7) (pv 5) (aV _))))) (az (aO tR)) aW)
   (ao (bY (dq plainAttrs_list PySem.F.slot_list_append PySem.F.type_list_append dj (bW bC (pv 7) aA (fun _ _ => rfl)) (aj aK aq)))
   (az (bY (yw plainAttrs_list PySem.F.slot_list_reverse PySem.F.type_list_reverse qQ (pv 7))))))))
   (ao (bJ (PW.pt (zY (aJ (Di (K := K) rfl hr.units) (aR Aaf Gaf hr7 (aj (lg M_House Aah.b Gah hr8 T.c_House (aj (Ik (aR Aag Gag hr4 (aj (pv 2) (aj (pv 3) aq))) (dZ (xx rM aA))) aq)) aq)) (pv 5) (aV _)) (vN (aJ (De (K := K) rfl hr.units) (aR Aaf Gaf hr7 (aj (lg M_House Aah.b Gah hr8 T.c_House (aj (bz aq) aq)) aq)) (bz aq) (aV _))))) (az (aO tR)) aW)
   (ao (yK (aR Aa5 Ga5 hr2 (aj (pv 0) (aj (pv 1) aq))) (nJ (K := K) (n := 2) rfl rfl (bN (aG (i := 2) mK.nd rfl (Or.inl rfl)) (bN (aG (i := 3) mK.nd rfl (Or.inl rfl)) oX))))
   (az (aO (qy (Jr (K := K) rfl hr.units) (aR Aaf Gaf hr7 (aj (lg M_House Aah.b Gah hr8 T.c_House (aj (aR Aag Gag hr4 (aj (pv 2) (aj (pv 3) aq))) aq)) aq)) (aR Aak Gak hr4 (aj (pv 2) (aj (pv 3) aq))) (aV _)))))))))), ?_⟩
  refine ⟨_, rfl, S, ns, rfl, hS, fun pt lw la R ws as L rs H0 H1 hpt s1 hlw hw8 hwn hla hne g hd hok => ?_⟩
  refine ⟨pt, _, rfl, SqT.of hpt, rfl, _, _, rfl, _, _, rfl, _, _, rfl, rfl, ?_⟩
  refine ⟨_, rfl, _, rfl, H0, R, la, as, L, rs, rfl, hla, g, hd, hok, fun dh H2 xs ps s2 hdh0 px ead hk hof => ?_⟩
  have hla2 := s2 _ _ hla
  have hlw2 := s2 _ _ hlw
  have hd2 := hd.same s2
  have hS2 := (s1.trans s2).seq hS
  clear hpt s1 hS hla hlw hd s2
  have s3 : au H2 (upd H2 dh (.lst xs)) := au.new hdh0
  have hdh : (upd H2 dh (.lst xs)) dh = some (.lst xs) := ak
  generalize upd H2 dh (.lst xs) = H3 at s3 hdh
  refine fun x dx hx hdx hne1 => ⟨x, dx, dh, ps, xs, rfl, ak, (bc hx hdx) _ _ hdh, px.same (s3.trans (bc hx hdx)), hk, fun l H4 hl sb hh hlx => ⟨rfl, ?_⟩⟩
  have s34 : au H3 H4 := fun b o e => sb b o (bc hx hdx b o e) (aD e hx)
  have s24 := s3.trans s34
  have hh4 : dF C H4 x l ps := jr hh hlx (px.same s24)
  clear sb hl hx hdx hne1 hh hlx hdh s3 s34
  refine ⟨_, rfl, _, rfl, H0, la, R, as, L, rs, rfl, s24 _ _ hla2, g, hd2.same s24, hok, fun D H5 nb zs hD s5 hnb hz1 hz2 hdue => ?_⟩
  have s25 := s24.trans s5
  have hh5 := hh4.same s5
  have ez : ∀ {ys : List Str}, ys.Perm (adS ps) -> sortedS ys = true -> ys = zs := fun h1 h2 => ik (h1.trans (by rw [ead]; exact hz1.symm)) h2 hz2
  have hz1p : zs.Perm (adS ps) := by rw [ead]; exact hz1
  have enb : cut zs (jq ps zs) = cut zs nb := pq (fun z hz => Ca g hnb hk ead hof hz1p hz2 z (hz1.mem_iff.mp hz)) (List.Perm.refl _)
  have enr : cut zs (jq ps.reverse zs) = cut zs nb := (pq (fun z hz => wJ hk zs z (hz1p.mem_iff.mp hz)) (List.Perm.refl _)).trans enb
  have hzne : zs ≠ [] := fun z => by rw [z] at hz1; exact hne (map_eq_nil_iff.mp (List.nil_perm.mp hz1))
  have gz : Gr zs (cut zs nb) := ((hnb.gr g).perm hz1.symm).cut
  refine ⟨_, rfl, Z0, Z0, ?_⟩
  refine lY (fun i σ H' => ∃ v6 v7, σ = [some (.ref S), some (.ref lw), some (.ref la), some (.ref R), some (.ref x), some (.ref D), v6, v7] /\ au H5 H') ⟨none, none, rfl, au.refl _⟩ ?_ ?_
  ·rintro i σ H6 hi ⟨v6, v7, rfl, sm⟩
   refine ⟨_, rfl, x, l, ps, rfl, hh5.same sm, hk, fun b H7 ys hy1 hy2 hb s7 ka => ?_⟩
   obtain rfl := ez hy1 hy2
   rw [enb] at ka
   have hdue7 := hdue.same (sm.trans s7)
   obtain ⟨prs, e1, e2, e3⟩ := id ka
   refine ⟨_, rfl, _, _, _, _, rfl, .lst e1, Eh, _, rfl, qg ⟨_, rfl, _, rfl, b, D, rfl, rfl, yP ka hdue7, _, rfl, qg ?_⟩⟩
   obtain ⟨fr, ft, rfl⟩ : ∃ fr ft, prs = fr :: ft := by
    cases prs with
    | nil =>
     have h1 := pG gz.kgr (le_refl (kss ys (cut ys nb)).length)
     have h2 : (kOr ys (cut ys nb)).length = (kss ys (cut ys nb)).length := h1.len
     rw [<- e2] at h2
     have h3 : kss ys (cut ys nb) = [] := List.eq_nil_of_length_eq_zero h2.symm
     obtain ⟨u, hu⟩ := List.exists_mem_of_ne_nil _ hzne
     have := (vm gz.kgr).mpr ⟨u, hu, rfl⟩
     rw [show dH ys (Rch (cut ys nb)) = [] from h3] at this
     cases this
    | cons a t => exact ⟨a, t, rfl⟩
   obtain ⟨e4, e5⟩ := e3 fr Z2
   have h12 : fr.2.length <= 12 := by
    have h1 := pG gz.kgr (le_refl (kss ys (cut ys nb)).length)
    refine (nD gz (h1.sub fr.2 ?_)).1
    show fr.2 ∈ kOr ys (cut ys nb)
    rw [<- e2]
    simp
   have hfb : fr.1 ≠ b := fun z => by
    rw [z, e1] at e4
    have := HO.lst.inj (Option.some.inj e4)
    cases hk : fr.2 with
    | nil => rw [hk] at this; cases this
    | cons u t => rw [hk] at this; cases this
   refine ⟨_, rfl, b, _, _, _, rfl, rfl, SqL.of e1, bf (j := 0) rfl, .inl ⟨rfl, _, SqL.of e4⟩, fr.1, _, _, rfl, rfl, e4, lt_of_lt_of_le (show (fr.2.map V.str).length < 1000 by rw [length_map]; omega) bH, ?_⟩
   have sA : au H5 (upd H7 fr.1 (.lst (fr.2.map V.str ++ [V.str "a"]))) := (sm.trans s7).over (sm.free e5)
   have hbA : (upd H7 fr.1 (.lst (fr.2.map V.str ++ [V.str "a"]))) b = some (.lst (refs (fr :: ft))) := by rw [aF hfb.symm]; exact e1
   generalize upd H7 fr.1 (.lst (fr.2.map V.str ++ [V.str "a"])) = H8 at sA hbA
   refine ⟨_, rfl, .inl ⟨rfl, _, SqL.of hbA⟩, b, _, rfl, rfl, hbA, ?_⟩
   exact ⟨_, _, rfl, sA.over (sm.free hb)⟩
  ·rintro σ H6 ⟨v6, v7, rfl, sm⟩
   have s26 := s25.trans sm
   refine ⟨_, rfl, _, rfl, H0, R, la, as, L, rs, rfl, s26 _ _ hla2, g, hd2.same s26, hok, fun d2 H7 xs2 ps2 s7 hd20 px2 ead2 hk2 hof2 => ?_⟩
   have s67 : au H6 (upd H7 d2 (.lst xs2)) := s7.put hd20
   have hd7 : (upd H7 d2 (.lst xs2)) d2 = some (.lst xs2) := ak
   have px7 := px2.same (au.new (o := .lst xs2) hd20)
   generalize upd H7 d2 (.lst xs2) = H8 at s67 hd7 px7
   refine ⟨_, rfl, _, rfl, d2, xs2, rfl, rfl, SqL.of hd7, fun dr hdr => ?_⟩
   have s68 : au H6 (upd H8 dr (.lst xs2.reverse)) := s67.put hdr
   have hdr8 : (upd H8 dr (.lst xs2.reverse)) dr = some (.lst xs2.reverse) := ak
   have px8 := px7.same (au.new (o := .lst xs2.reverse) hdr)
   generalize upd H8 dr (.lst xs2.reverse) = H9 at s68 hdr8 px8
   refine fun x2 dx2 hx hdx hne1 => ⟨x2, dx2, dr, ps2.reverse, xs2.reverse, rfl, ak, (bc hx hdx) _ _ hdr8, (px8.same (bc hx hdx)).rev, hk2.rev, fun l2 HA hl sb hh2 hlx2 => ⟨rfl, ?_⟩⟩
   have s9A : au H9 HA := fun b o e => sb b o (bc hx hdx b o e) (aD e hx)
   have ht : dF C HA x2 l2 ps2.reverse := jr hh2 hlx2 (px8.same s9A).rev
   have s6A := s68.trans s9A
   clear sb hl hx hdx hne1 hh2 hlx2 s9A hdr8 hd7
   have hz1q : zs.Perm (adS ps2) := by rw [ead2]; exact hz1
   have enb2 : cut zs (jq ps2.reverse zs) = cut zs nb := (pq (fun z hz => wJ hk2 zs z (hz1q.mem_iff.mp hz)) (List.Perm.refl _)).trans (pq (fun z hz => Ca g hnb hk2 ead2 hof2 hz1q hz2 z (hz1.mem_iff.mp hz)) (List.Perm.refl _))
   refine ⟨x2, l2, ps2.reverse, rfl, ht, hk2.rev, fun b HB ys hy1 hy2 hb sB ka => ?_⟩
   obtain rfl : ys = zs := ik (hy1.trans (by rw [qz]; exact (List.reverse_perm _).trans hz1q.symm)) hy2 hz2
   rw [enb2] at ka
   have s5B := sm.trans (s6A.trans sB)
   refine ⟨_, rfl, b, D, rfl, rfl, yP ka (hdue.same s5B), _, rfl, qg ?_⟩
   have s2B := s25.trans s5B
   refine ⟨by show 0 <= sizeLine; decide, fun e he => ?_⟩
   have sBC : au HB (upd HB e (.lst [])) := au.new he
   have heC : (upd HB e (.lst [])) e = some (.lst []) := ak
   generalize upd HB e (.lst []) = HC at sBC heC
   refine fun x3 dx3 hx hdx hne1 => ⟨x3, dx3, e, [], [], rfl, ak, (bc hx hdx) _ _ heC, ⟨rfl, fun i p e => by cases e⟩, ok0, fun l3 HD hl sb hh3 hlx3 => ⟨rfl, ?_⟩⟩
   have sCD : au HC HD := fun b o e => sb b o (bc hx hdx b o e) (aD e hx)
   have ht3 : dF C HD x3 l3 [] := jr hh3 hlx3 ⟨rfl, fun i p e => by cases e⟩
   have s2D := s2B.trans (sBC.trans sCD)
   clear sb hl hx hdx hne1 hh3 hlx3
   refine ⟨x3, l3, [], rfl, ht3, ok0, fun b3 HE ys3 hy3 hy4 hb3 sE ka3 => ?_⟩
   obtain rfl : ys3 = [] := List.perm_nil.mp hy3
   obtain ⟨p3, e1, e2, e3⟩ := ka3
   obtain rfl : p3 = [] := map_eq_nil_iff.mp e2
   refine ⟨by show 0 <= sizeLine; decide, fun e4 he4 => ⟨b3, e4, [], rfl, rfl, SqL.of ((au.new he4) _ _ e1), SqL.of ak, _, rfl, bj rfl ?_⟩⟩
   have s2F : au H2 (upd HE e4 (.lst [])) := (s2D.trans sE).put he4
   generalize upd HE e4 (.lst []) = HF at s2F
   clear ht ht3 hh5 hh4 px px2 px7 px8 hof hof2 hk hk2 hdue hd2 sm
   refine ⟨_, rfl, _, rfl, S, lw, ns, ws, rfl, s2F.seq hS2, s2F _ _ hlw2, hw8, hwn, fun p2 la2 R2 as2 L2' rs2 Hb H10 hp2 s10 hla10 hne2 g2 hd10 hok2 => ?_⟩
   refine ⟨p2, _, rfl, SqT.of hp2, rfl, _, _, rfl, _, _, rfl, rfl, ?_⟩
   refine ⟨_, rfl, _, rfl, Hb, R2, la2, as2, L2', rs2, rfl, hla10, g2, hd10, hok2, fun dh2 H11 xs3 ps3 s11 hdh2 px3 ead3 hk3 hof3 => ?_⟩
   have s12 : au H11 (upd H11 dh2 (.lst xs3)) := au.new hdh2
   have hd12 : (upd H11 dh2 (.lst xs3)) dh2 = some (.lst xs3) := ak
   generalize upd H11 dh2 (.lst xs3) = H12 at s12 hd12
   refine fun x4 dx4 hx hdx hne1 => ⟨x4, dx4, dh2, ps3, xs3, rfl, ak, (bc hx hdx) _ _ hd12, px3.same (s12.trans (bc hx hdx)), hk3, fun l4 H13 hl sb hh hlx => ⟨rfl, ?_⟩⟩
   have s13 : au H11 H13 := s12.trans fun b o e => sb b o (bc hx hdx b o e) (aD e hx)
   have s1013 := s11.trans s13
   refine ⟨x4, l4, ps3, rfl, jr hh hlx (px3.same s13), hk3, fun b4 H14 ys4 hy5 hy6 hb4 s14 ka4 => ?_⟩
   have s1014 := s1013.trans s14
   refine ⟨_, rfl, _, rfl, Hb, la2, R2, as2, L2', rs2, rfl, s1014 _ _ hla10, g2, hd10.same s1014, hok2, fun D2 H15 nb2 zs2 hD2 s15 hnb2 hz3 hz4 hdue2 => ?_⟩
   obtain rfl : ys4 = zs2 := ik (hy5.trans (by rw [ead3]; exact hz3.symm)) hy6 hz4
   rw [pq (fun z hz => Ca g2 hnb2 hk3 ead3 hof3 hy5 hy6 z (hz3.mem_iff.mp hz)) (List.Perm.refl _)] at ka4
   exact ⟨b4, D2, rfl, rfl, yP (ka4.same s15) hdue2, q _⟩
end
def FI (K : Frag) (x : Str) (st : Stmt) : Prop := ∃ f fd, nsIn K mainGlobals x = some (some (.ref f)) /\ Fun K x x st f fd
theorem fi {K : Frag} {x : Str} {st : Stmt} {f : Addr} {oc : Value} {od an : Option Addr} {osl : Array (Option Value)} {kV doc pm cdv ct : Value} (a : nsIn K mainGlobals x = some (some (.ref f))) (l : K.lookup f = some ⟨oc, od, .func (fnOf x x (cH st) (bR st) (aC st) .none kV doc pm an cdv ct), osl⟩) (c : codeIn K cdv x = true) (k : keepIn K (.ref f) = true) : FI K x st := ⟨f, _, a, Ds l c k⟩
def MI (K : Frag) (g : Addr) (x q : Str) (st : Stmt) : Prop := (∃ fd, Fun K x q st g fd) /\ isFn K (.ref g) = true /\ keepIn K (.ref g) = true
theorem mi {K : Frag} {x q : Str} {st : Stmt} {f : Addr} {oc : Value} {od an : Option Addr} {osl : Array (Option Value)} {kV doc pm cdv ct : Value} (l : K.lookup f = some ⟨oc, od, .func (fnOf x q (cH st) (bR st) (aC st) .none kV doc pm an cdv ct), osl⟩) (c : codeIn K cdv q = true) (k : keepIn K (.ref f) = true) (i : isFn K (.ref f) = true) : MI K f x q st := ⟨⟨_, Ds l c k⟩, i, k⟩
structure CI (K : Frag) (C : Addr) (x : Str) : Prop where
 A : nsIn K mainGlobals x = some (some (.ref C))
 pg : plainGet K C Str.empty = true
 hd : hasDictIn K C = true
 po : plainOver K C = true
 sa : findIn K (.ref C) "__setattr__" = some (some (.builtin "object.__setattr__"))
 mq : makesIn K C = true
 kc : keepIn K (.ref C) = true
 ca : findIn K (.ref C) "__class__" = some (some (.builtin "object.__class__"))
 mo : mroIn K C (.type "object") = some true
 ty : typeIn K (.ref C) = some (.type "type")
 mm : mroIn K C (.ref C) = some true
def BA (x q : Str) (st : Stmt) (ps : List Str) (n : Nat) : Prop := ∀ (kV doc pm : Value) (an : Option Addr) (cdv ct : Value) (us : List Value), us.length = n -> bindArgs (fnOf x q (cH st) (bR st) (aC st) .none kV doc pm an cdv ct) ⟨us, []⟩ = pure (ps.zip us)
theorem ba1 {x q : Str} {st : Stmt} {ps : List Str} (h : ∀ (kV doc pm : Value) (an : Option Addr) (cdv ct a : Value), bindArgs (fnOf x q (cH st) (bR st) (aC st) .none kV doc pm an cdv ct) ⟨[a], []⟩ = pure (ps.zip [a])) : BA x q st ps 1 := fun _ _ _ _ _ _ us hl => by obtain ⟨a, rfl⟩ := M7 hl; exact h ..
theorem ba2 {x q : Str} {st : Stmt} {ps : List Str} (h : ∀ (kV doc pm : Value) (an : Option Addr) (cdv ct a b : Value), bindArgs (fnOf x q (cH st) (bR st) (aC st) .none kV doc pm an cdv ct) ⟨[a, b], []⟩ = pure (ps.zip [a, b])) : BA x q st ps 2 := fun _ _ _ _ _ _ us hl => by obtain ⟨a, b, rfl⟩ := Kr hl; exact h ..
theorem ba3 {x q : Str} {st : Stmt} {ps : List Str} (h : ∀ (kV doc pm : Value) (an : Option Addr) (cdv ct a b c : Value), bindArgs (fnOf x q (cH st) (bR st) (aC st) .none kV doc pm an cdv ct) ⟨[a, b, c], []⟩ = pure (ps.zip [a, b, c])) : BA x q st ps 3 := fun _ _ _ _ _ _ us hl => by obtain ⟨a, b, c, rfl⟩ := Q3 hl; exact h ..
theorem ba4 {x q : Str} {st : Stmt} {ps : List Str} (h : ∀ (kV doc pm : Value) (an : Option Addr) (cdv ct a b c d : Value), bindArgs (fnOf x q (cH st) (bR st) (aC st) .none kV doc pm an cdv ct) ⟨[a, b, c, d], []⟩ = pure (ps.zip [a, b, c, d])) : BA x q st ps 4 := fun _ _ _ _ _ _ us hl => by obtain ⟨a, b, c, d, rfl⟩ := Vh hl; exact h ..
theorem fat {K : Frag} {h : Heap} {mg : Str -> Option Value} {x : Str} {st : Stmt} {ps : List Str} (X : K.In h) (G : h.Ns mainGlobals mg) (b : BA x x st ps ps.length) (i : FI K x st) : ∃ f fd, FnAt K mg x st ps f fd := by
 obtain ⟨f, fd, a, F⟩ := i
 exact ⟨f, fd, F, F.binds b, mg_of X G a⟩
theorem jg {K : Frag} {g : Addr} {x q : Str} {st : Stmt} {ps : List Str} {p : Addr -> Prop} (b : BA x q st ps ps.length) (i : MI K g x q st) (z : isFn K (.ref g) = true -> keepIn K (.ref g) = true -> p g) : ∃ f fd, MAt K x q st ps f fd /\ p f := by
 obtain ⟨⟨fd, F⟩, i1, i2⟩ := i
 exact ⟨g, fd, ⟨F, F.binds b⟩, z i1 i2⟩
theorem Jl {l : OpenLaw} {w : World} {K : Frag} {h : Heap} {mg : Str -> Option Value} {fa g0 g1 g2 g3 g4 g5 g6 g7 g8 g9 g10 g11 g12 g13 g14 g15 g16 g17 g18 g19 g20 C0 C1 C2 C3 C4 C5 C6 C7 C8 gx C20 C21 N20 N21 : Addr} (X : K.In h) (G : h.Ns mainGlobals mg) (hfa : mg "law" = some (.ref fa))
  {nm20 qn20 nm21 qn21 : Str} {bs20 sub20 bs21 sub21 : List Value} {sn20 sn21 : List Str} {ab20 ab21 : Bool} {col20 col21 : Option Bool} {dd20 dd21 : Option Addr} {x020 x120 x220 x320 x520 x021 x121 x221 x321 x521 : Option Value} {oN : Value} {dN : Option Addr} {esN : Array DictEntry} {nN : Nat} {slN : Array (Option Value)}
  {tk0 : Tok}
  (h0 : FI K "prefixes" kh)
  (h1 : FI K "parent_of" iT)
  (h2 : FI K "named_by" jn)
  (h3 : FI K "links" qC)
  (h4 : FI K "all_links" iy)
  (h5 : FI K "reached" lV)
  (h6 : FI K "knot_of" lX)
  (h7 : FI K "may_come" jZ)
  (h8 : FI K "in_order" jT)
  (h9 : FI K "knots" qK)
  (h10 : FI K "is_orphan" iB)
  (h11 : FI K "is_clash" jX)
  (h12 : FI K "check_parts" fY)
  (h13 : FI K "_law_cell" jU)
  (h14 : FI K "_law_pick" jP)
  (h15 : FI K "_law_words" iR)
  (h16 : FI K "_law_addresses" dD)
  (h17 : FI K "_law_asked" iV)
  (h18 : FI K "_law_drawn" iw)
  (h19 : FI K "_law_rows" jL)
  (h20 : FI K "_law_row" lZ)
  (h21 : FI K "_law_parts" iU)
  (h22 : FI K "_law_made" jG)
  (h23 : FI K "_law_prefixes" eV)
  (h24 : FI K "_law_links" iH)
  (h25 : FI K "_law_behind" gJ)
  (h26 : FI K "_law_due" lQ)
  (h27 : FI K "_law_long" jo)
  (h28 : FI K "law" EY)
  (D0 : CI K C0 "Let")
  (D1 : CI K C1 "Deed")
  (D2 : CI K C2 "Draw")
  (D3 : CI K C3 "Late")
  (D4 : CI K C4 "Take")
  (D5 : CI K C5 "Need")
  (D6 : CI K C6 "Row")
  (D7 : CI K C7 "Part")
  (D8 : CI K C8 "House")
  (nf0x0 : findIn K (.ref C0) "name" = some none)
  (nf0x1 : findIn K (.ref C0) "terms" = some none)
  (nf0x2 : findIn K (.ref C0) "address" = some none)
  (nf0x3 : findIn K (.ref C0) "word" = some none)
  (mm0x1 : mroIn K C0 (.ref C1) = some false)
  (mm0x2 : mroIn K C0 (.ref C2) = some false)
  (mm0x3 : mroIn K C0 (.ref C3) = some false)
  (mm0x4 : mroIn K C0 (.ref C4) = some false)
  (mm0x5 : mroIn K C0 (.ref C5) = some false)
  (mm0x6 : mroIn K C0 (.ref C6) = some true)
  (nf1x0 : findIn K (.ref C1) "name" = some none)
  (nf1x1 : findIn K (.ref C1) "terms" = some none)
  (nf1x2 : findIn K (.ref C1) "address" = some none)
  (nf1x3 : findIn K (.ref C1) "word" = some none)
  (mm1x0 : mroIn K C1 (.ref C0) = some false)
  (mm1x2 : mroIn K C1 (.ref C2) = some false)
  (mm1x3 : mroIn K C1 (.ref C3) = some false)
  (mm1x4 : mroIn K C1 (.ref C4) = some false)
  (mm1x5 : mroIn K C1 (.ref C5) = some false)
  (mm1x6 : mroIn K C1 (.ref C6) = some true)
  (nf2x0 : findIn K (.ref C2) "name" = some none)
  (nf2x1 : findIn K (.ref C2) "terms" = some none)
  (nf2x2 : findIn K (.ref C2) "address" = some none)
  (nf2x3 : findIn K (.ref C2) "word" = some none)
  (mm2x0 : mroIn K C2 (.ref C0) = some false)
  (mm2x1 : mroIn K C2 (.ref C1) = some false)
  (mm2x3 : mroIn K C2 (.ref C3) = some false)
  (mm2x4 : mroIn K C2 (.ref C4) = some false)
  (mm2x5 : mroIn K C2 (.ref C5) = some false)
  (mm2x6 : mroIn K C2 (.ref C6) = some true)
  (nf3x0 : findIn K (.ref C3) "name" = some none)
  (nf3x1 : findIn K (.ref C3) "terms" = some none)
  (nf3x2 : findIn K (.ref C3) "address" = some none)
  (nf3x3 : findIn K (.ref C3) "word" = some none)
  (mm3x0 : mroIn K C3 (.ref C0) = some false)
  (mm3x1 : mroIn K C3 (.ref C1) = some false)
  (mm3x2 : mroIn K C3 (.ref C2) = some false)
  (mm3x4 : mroIn K C3 (.ref C4) = some false)
  (mm3x5 : mroIn K C3 (.ref C5) = some false)
  (mm3x6 : mroIn K C3 (.ref C6) = some true)
  (nf4x0 : findIn K (.ref C4) "name" = some none)
  (nf4x1 : findIn K (.ref C4) "terms" = some none)
  (nf4x2 : findIn K (.ref C4) "address" = some none)
  (nf4x3 : findIn K (.ref C4) "word" = some none)
  (mm4x0 : mroIn K C4 (.ref C0) = some false)
  (mm4x1 : mroIn K C4 (.ref C1) = some false)
  (mm4x2 : mroIn K C4 (.ref C2) = some false)
  (mm4x3 : mroIn K C4 (.ref C3) = some false)
  (mm4x5 : mroIn K C4 (.ref C5) = some false)
  (mm4x6 : mroIn K C4 (.ref C6) = some true)
  (nf5x0 : findIn K (.ref C5) "name" = some none)
  (nf5x1 : findIn K (.ref C5) "terms" = some none)
  (nf5x2 : findIn K (.ref C5) "address" = some none)
  (nf5x3 : findIn K (.ref C5) "word" = some none)
  (mm5x0 : mroIn K C5 (.ref C0) = some false)
  (mm5x1 : mroIn K C5 (.ref C1) = some false)
  (mm5x2 : mroIn K C5 (.ref C2) = some false)
  (mm5x3 : mroIn K C5 (.ref C3) = some false)
  (mm5x4 : mroIn K C5 (.ref C4) = some false)
  (mm5x6 : mroIn K C5 (.ref C6) = some true)
  (nf6x0 : findIn K (.ref C6) "name" = some none)
  (nf6x1 : findIn K (.ref C6) "terms" = some none)
  (nf6x2 : findIn K (.ref C6) "address" = some none)
  (nf6x3 : findIn K (.ref C6) "word" = some none)
  (mm6x0 : mroIn K C6 (.ref C0) = some false)
  (mm6x1 : mroIn K C6 (.ref C1) = some false)
  (mm6x2 : mroIn K C6 (.ref C2) = some false)
  (mm6x3 : mroIn K C6 (.ref C3) = some false)
  (mm6x4 : mroIn K C6 (.ref C4) = some false)
  (mm6x5 : mroIn K C6 (.ref C5) = some false)
  (nf7x0 : findIn K (.ref C7) "address" = some none)
  (nf7x1 : findIn K (.ref C7) "rows" = some none)
  (nf8x0 : findIn K (.ref C8) "told" = some none)
  (u0x5 : findIn K (.ref C5) "binds" = some (some (.ref g0)))
  (u0x6 : findIn K (.ref C6) "binds" = some (some (.ref g0)))
  (j0 : MI K g0 "binds" "Row.binds" fO)
  (u1x0 : findIn K (.ref C0) "asked" = some (some (.ref g1)))
  (u1x1 : findIn K (.ref C1) "asked" = some (some (.ref g1)))
  (u1x5 : findIn K (.ref C5) "asked" = some (some (.ref g1)))
  (u1x6 : findIn K (.ref C6) "asked" = some (some (.ref g1)))
  (j1 : MI K g1 "asked" "Row.asked" fW)
  (u2x0 : findIn K (.ref C0) "__init__" = some (some (.ref g2)))
  (j2 : MI K g2 "__init__" "Let.__init__" di)
  (u3x0 : findIn K (.ref C0) "binds" = some (some (.ref g3)))
  (j3 : MI K g3 "binds" "Let.binds" fZ)
  (u4x1 : findIn K (.ref C1) "__init__" = some (some (.ref g4)))
  (j4 : MI K g4 "__init__" "Deed.__init__" cL)
  (u5x1 : findIn K (.ref C1) "binds" = some (some (.ref g5)))
  (j5 : MI K g5 "binds" "Deed.binds" dW)
  (u6x2 : findIn K (.ref C2) "__init__" = some (some (.ref g6)))
  (j6 : MI K g6 "__init__" "Draw.__init__" cG)
  (u7x2 : findIn K (.ref C2) "binds" = some (some (.ref g7)))
  (j7 : MI K g7 "binds" "Draw.binds" eY)
  (u8x2 : findIn K (.ref C2) "asked" = some (some (.ref g8)))
  (j8 : MI K g8 "asked" "Draw.asked" d9)
  (u9x3 : findIn K (.ref C3) "__init__" = some (some (.ref g9)))
  (j9 : MI K g9 "__init__" "Late.__init__" cP)
  (u10x3 : findIn K (.ref C3) "binds" = some (some (.ref g10)))
  (j10 : MI K g10 "binds" "Late.binds" d8)
  (u11x3 : findIn K (.ref C3) "asked" = some (some (.ref g11)))
  (j11 : MI K g11 "asked" "Late.asked" eQ)
  (u12x4 : findIn K (.ref C4) "__init__" = some (some (.ref g12)))
  (j12 : MI K g12 "__init__" "Take.__init__" cN)
  (u13x4 : findIn K (.ref C4) "binds" = some (some (.ref g13)))
  (j13 : MI K g13 "binds" "Take.binds" eX)
  (u14x4 : findIn K (.ref C4) "asked" = some (some (.ref g14)))
  (j14 : MI K g14 "asked" "Take.asked" eO)
  (u15x5 : findIn K (.ref C5) "__init__" = some (some (.ref g15)))
  (j15 : MI K g15 "__init__" "Need.__init__" cJ)
  (u16x8 : findIn K (.ref C8) "__init__" = some (some (.ref g16)))
  (j16 : MI K g16 "__init__" "House.__init__" cC)
  (u17x8 : findIn K (.ref C8) "addresses" = some (some (.ref g17)))
  (j17 : MI K g17 "addresses" "House.addresses" b7)
  (u18x8 : findIn K (.ref C8) "part" = some (some (.ref g18)))
  (j18 : MI K g18 "part" "House.part" d7)
  (u19x7 : findIn K (.ref C7) "__init__" = some (some (.ref g19)))
  (j19 : MI K g19 "__init__" "Part.__init__" cI)
  (u20x7 : findIn K (.ref C7) "bound" = some (some (.ref g20)))
  (j20 : MI K g20 "bound" "Part.bound" dY)
  (A20 : nsIn K mainGlobals "HouseError" = some (some (.ref C20)))
  (B20 : K.lookup C20 = some (excClassObj nm20 qn20 C20 N20 bs20 rT true sn20 sub20 ab20 col20 dd20 x020 x120 x220 x320 x520 "ValueError.__new__"))
  (A21 : nsIn K mainGlobals "NoPart" = some (some (.ref C21)))
  (B21 : K.lookup C21 = some (excClassObj nm21 qn21 C21 N21 bs21 (.ref C20 :: rT) true sn21 sub21 ab21 col21 dd21 x021 x121 x221 x321 x521 "ValueError.__new__"))
  (E0 : findIn K (.ref C21) "__getattribute__" = some (some (.builtin "BaseException.__getattribute__")))
  (E1 : findIn K (.ref C21) "__getattr__" = some none)
  (E2 : findIn K (.ref C21) "__setattr__" = some (some (.builtin "object.__setattr__")))
  (E3 : findIn K (.ref C21) "__class__" = some (some (.builtin "object.__class__")))
  (E4 : findIn K (.ref C21) "address" = some none)
  (E5 : findIn K (.ref C21) "__init__" = some (some (.ref gx)))
  (P21 : keepIn K (.ref C21) = true)
  (jx : MI K gx "__init__" "NoPart.__init__" gW)
  (y1 : specialIn K (.ref C20) "__getattribute__" = some (some (.builtin "type.__getattribute__")))
  (y2 : readsIn K C20 (.type "type") = true)
  (y3 : findCls K (.ref C20) (.type "type") "__init__" = some (.val (.builtin "ValueError.__init__")))
  (NH : K.lookup N20 = some ⟨oN, dN, .dict esN nN, slN⟩)
  (SK : nZ esN = true)
  (NI : nsFind esN "__init__" = none)
  (oi : findIn K (.ref C6) "__init__" = some (some (.builtin "object.__init__")))
  (cg : specialIn K (.builtin "object.__class__") "__get__" = some (some (.builtin "getset_descriptor.__get__")))
  (ctk : takesIn K (.builtin "object.__class__") = some true)
  (gc0 : nsIn K mainGlobals "MOST_PARTS" = some (some (.int 12 tk0)))
  (z0 : nsIn K mainGlobals "sorted" = some none)
  (z1 : nsIn K mainGlobals "dict" = some none)
  (z2 : nsIn K mainGlobals "any" = some none)
  (z3 : nsIn K mainGlobals "enumerate" = some none)
  (z4 : nsIn K mainGlobals "len" = some none)
  (z5 : nsIn K mainGlobals "range" = some none)
  (z6 : nsIn K mainGlobals "isinstance" = some none)
  (z7 : nsIn K mainGlobals "str" = some none)
  (z8 : nsIn K mainGlobals "int" = some none)
  (z9 : nsIn K mainGlobals "bool" = some none)
  (z10 : nsIn K mainGlobals "list" = some none)
  (z11 : nsIn K mainGlobals "tuple" = some none)
  (z12 : nsIn K mainGlobals "all" = some none)
  (z13 : nsIn K mainGlobals "max" = some none)
  (z14 : nsIn K mainGlobals "min" = some none)
  (z15 : nsIn K mainGlobals "zip" = some none) :
  ∃ fd : FuncData, (∀ (s : Shared) (v : Value), BindsTo s fd ⟨[v], []⟩ [("_law_script", v)]) /\ ∀ base : Heap, K.In base -> base.Ns mainGlobals mg -> aM l.prog w K mg base CX0 9 fa fd ["_law_script"] (zj K) := by
 have R0 : RCl K C0 := ⟨⟨D0.pg, D0.hd, D0.po, D0.sa⟩, D0.ca, cg, ctk, D0.mo⟩
 have R1 : RCl K C1 := ⟨⟨D1.pg, D1.hd, D1.po, D1.sa⟩, D1.ca, cg, ctk, D1.mo⟩
 have R2 : RCl K C2 := ⟨⟨D2.pg, D2.hd, D2.po, D2.sa⟩, D2.ca, cg, ctk, D2.mo⟩
 have R3 : RCl K C3 := ⟨⟨D3.pg, D3.hd, D3.po, D3.sa⟩, D3.ca, cg, ctk, D3.mo⟩
 have R4 : RCl K C4 := ⟨⟨D4.pg, D4.hd, D4.po, D4.sa⟩, D4.ca, cg, ctk, D4.mo⟩
 have R5 : RCl K C5 := ⟨⟨D5.pg, D5.hd, D5.po, D5.sa⟩, D5.ca, cg, ctk, D5.mo⟩
 have R6 : RCl K C6 := ⟨⟨D6.pg, D6.hd, D6.po, D6.sa⟩, D6.ca, cg, ctk, D6.mo⟩
 have R7 : RCl K C7 := ⟨⟨D7.pg, D7.hd, D7.po, D7.sa⟩, D7.ca, cg, ctk, D7.mo⟩
 have R8 : RCl K C8 := ⟨⟨D8.pg, D8.hd, D8.po, D8.sa⟩, D8.ca, cg, ctk, D8.mo⟩
 have FM : RL K (fun i => [C0, C1, C2, C3, C4, C5, C6, C7, C8, 0, 0, 0, 0, 0, 0, 0, 0, 0, 0, 0, C20, C21].getD i 0) := ⟨pD R0 R1 R2 R3 R4 R5 R6, fun i j h1 h2 => pD (p := fun i => ∀ j, j <= 6 -> kitOne K (.ref ([C0, C1, C2, C3, C4, C5, C6, C7, C8, 0, 0, 0, 0, 0, 0, 0, 0, 0, 0, 0, C20, C21].getD i 0)) (.ref ([C0, C1, C2, C3, C4, C5, C6, C7, C8, 0, 0, 0, 0, 0, 0, 0, 0, 0, 0, 0, C20, C21].getD j 0)) = some (pX i j)) (pD (aN D0.mm D0.mm D0.mo D0.ty) (aN mm0x1 D1.mm D1.mo D1.ty) (aN mm0x2 D2.mm D2.mo D2.ty) (aN mm0x3 D3.mm D3.mo D3.ty) (aN mm0x4 D4.mm D4.mo D4.ty) (aN mm0x5 D5.mm D5.mo D5.ty) (aN mm0x6 D6.mm D6.mo D6.ty)) (pD (aN mm1x0 D0.mm D0.mo D0.ty) (aN D1.mm D1.mm D1.mo D1.ty) (aN mm1x2 D2.mm D2.mo D2.ty) (aN mm1x3 D3.mm D3.mo D3.ty) (aN mm1x4 D4.mm D4.mo D4.ty) (aN mm1x5 D5.mm D5.mo D5.ty) (aN mm1x6 D6.mm D6.mo D6.ty)) (pD (aN mm2x0 D0.mm D0.mo D0.ty) (aN mm2x1 D1.mm D1.mo D1.ty) (aN D2.mm D2.mm D2.mo D2.ty) (aN mm2x3 D3.mm D3.mo D3.ty) (aN mm2x4 D4.mm D4.mo D4.ty) (aN mm2x5 D5.mm D5.mo D5.ty) (aN mm2x6 D6.mm D6.mo D6.ty)) (pD (aN mm3x0 D0.mm D0.mo D0.ty) (aN mm3x1 D1.mm D1.mo D1.ty) (aN mm3x2 D2.mm D2.mo D2.ty) (aN D3.mm D3.mm D3.mo D3.ty) (aN mm3x4 D4.mm D4.mo D4.ty) (aN mm3x5 D5.mm D5.mo D5.ty) (aN mm3x6 D6.mm D6.mo D6.ty)) (pD (aN mm4x0 D0.mm D0.mo D0.ty) (aN mm4x1 D1.mm D1.mo D1.ty) (aN mm4x2 D2.mm D2.mo D2.ty) (aN mm4x3 D3.mm D3.mo D3.ty) (aN D4.mm D4.mm D4.mo D4.ty) (aN mm4x5 D5.mm D5.mo D5.ty) (aN mm4x6 D6.mm D6.mo D6.ty)) (pD (aN mm5x0 D0.mm D0.mo D0.ty) (aN mm5x1 D1.mm D1.mo D1.ty) (aN mm5x2 D2.mm D2.mo D2.ty) (aN mm5x3 D3.mm D3.mo D3.ty) (aN mm5x4 D4.mm D4.mo D4.ty) (aN D5.mm D5.mm D5.mo D5.ty) (aN mm5x6 D6.mm D6.mo D6.ty)) (pD (aN mm6x0 D0.mm D0.mo D0.ty) (aN mm6x1 D1.mm D1.mo D1.ty) (aN mm6x2 D2.mm D2.mo D2.ty) (aN mm6x3 D3.mm D3.mo D3.ty) (aN mm6x4 D4.mm D4.mo D4.ty) (aN mm6x5 D5.mm D5.mo D5.ty) (aN D6.mm D6.mm D6.mo D6.ty)) i h1 j h2, pD nf0x0 nf1x0 nf2x0 nf3x0 nf4x0 nf5x0 nf6x0, pD nf0x1 nf1x1 nf2x1 nf3x1 nf4x1 nf5x1 nf6x1, pD nf0x2 nf1x2 nf2x2 nf3x2 nf4x2 nf5x2 nf6x2, pD nf0x3 nf1x3 nf2x3 nf3x3 nf4x3 nf5x3 nf6x3⟩
 have IX : ∃ f fd, XIn K C21 "NoPart.__init__" gW gY f fd := by
  obtain ⟨⟨fd, F⟩, i1, i2⟩ := jx
  exact ⟨gx, fd, F, F.binds (ba2 fun _ _ _ _ _ _ _ _ => rfl), E5, i1, P21, Z0⟩
 have TT : Tx K mg (fun i => [C0, C1, C2, C3, C4, C5, C6, C7, C8, 0, 0, 0, 0, 0, 0, 0, 0, 0, 0, 0, C20, C21].getD i 0) := ⟨mg_none_of X G z0, mg_none_of X G z1, mg_none_of X G z2, mg_none_of X G z3, mg_none_of X G z4, mg_none_of X G z5, mg_none_of X G z6, mg_none_of X G z7, mg_none_of X G z8, mg_none_of X G z9, mg_none_of X G z10, mg_none_of X G z11, mg_none_of X G z12, mg_none_of X G z13, mg_none_of X G z14, mg_none_of X G z15, ⟨_, mg_of X G gc0⟩, fat X G (ba1 fun _ _ _ _ _ _ _ => rfl) h0, fat X G (ba1 fun _ _ _ _ _ _ _ => rfl) h1, fat X G (ba1 fun _ _ _ _ _ _ _ => rfl) h2, fat X G (ba2 fun _ _ _ _ _ _ _ _ => rfl) h3, fat X G (ba1 fun _ _ _ _ _ _ _ => rfl) h4, fat X G (ba2 fun _ _ _ _ _ _ _ _ => rfl) h5, fat X G (ba2 fun _ _ _ _ _ _ _ _ => rfl) h6, fat X G (ba3 fun _ _ _ _ _ _ _ _ _ => rfl) h7, fat X G (ba2 fun _ _ _ _ _ _ _ _ => rfl) h8, fat X G (ba1 fun _ _ _ _ _ _ _ => rfl) h9, fat X G (ba2 fun _ _ _ _ _ _ _ _ => rfl) h10, fat X G (ba2 fun _ _ _ _ _ _ _ _ => rfl) h11, fat X G (ba1 fun _ _ _ _ _ _ _ => rfl) h12, fat X G (ba2 fun _ _ _ _ _ _ _ _ => rfl) h13, fat X G (ba3 fun _ _ _ _ _ _ _ _ _ => rfl) h14, fat X G (ba1 fun _ _ _ _ _ _ _ => rfl) h15, fat X G (ba3 fun _ _ _ _ _ _ _ _ _ => rfl) h16, fat X G (ba3 fun _ _ _ _ _ _ _ _ _ => rfl) h17, fat X G (ba4 fun _ _ _ _ _ _ _ _ _ _ => rfl) h18, fat X G (ba3 fun _ _ _ _ _ _ _ _ _ => rfl) h19, fat X G (ba1 fun _ _ _ _ _ _ _ => rfl) h20, fat X G (ba2 fun _ _ _ _ _ _ _ _ => rfl) h21, fat X G (ba1 fun _ _ _ _ _ _ _ => rfl) h22, fat X G (ba1 fun _ _ _ _ _ _ _ => rfl) h23, fat X G (ba3 fun _ _ _ _ _ _ _ _ _ => rfl) h24, fat X G (ba2 fun _ _ _ _ _ _ _ _ => rfl) h25, fat X G (ba2 fun _ _ _ _ _ _ _ _ => rfl) h26, fat X G (ba2 fun _ _ _ _ _ _ _ _ => rfl) h27, jg (ba1 fun _ _ _ _ _ _ _ => rfl) j0 fun i k => ⟨⟨u0x5, i, k⟩, ⟨u0x6, i, k⟩⟩, jg (ba1 fun _ _ _ _ _ _ _ => rfl) j1 fun i k => ⟨⟨u1x0, i, k⟩, ⟨u1x1, i, k⟩, ⟨u1x5, i, k⟩, ⟨u1x6, i, k⟩⟩, jg (ba3 fun _ _ _ _ _ _ _ _ _ => rfl) j2 fun i k => ⟨D0.mq, u2x0, i, D0.kc⟩, jg (ba1 fun _ _ _ _ _ _ _ => rfl) j3 fun i k => ⟨u3x0, i, k⟩, jg (ba3 fun _ _ _ _ _ _ _ _ _ => rfl) j4 fun i k => ⟨D1.mq, u4x1, i, D1.kc⟩, jg (ba1 fun _ _ _ _ _ _ _ => rfl) j5 fun i k => ⟨u5x1, i, k⟩, jg (ba3 fun _ _ _ _ _ _ _ _ _ => rfl) j6 fun i k => ⟨D2.mq, u6x2, i, D2.kc⟩, jg (ba1 fun _ _ _ _ _ _ _ => rfl) j7 fun i k => ⟨u7x2, i, k⟩, jg (ba1 fun _ _ _ _ _ _ _ => rfl) j8 fun i k => ⟨u8x2, i, k⟩, jg (ba3 fun _ _ _ _ _ _ _ _ _ => rfl) j9 fun i k => ⟨D3.mq, u9x3, i, D3.kc⟩, jg (ba1 fun _ _ _ _ _ _ _ => rfl) j10 fun i k => ⟨u10x3, i, k⟩, jg (ba1 fun _ _ _ _ _ _ _ => rfl) j11 fun i k => ⟨u11x3, i, k⟩, jg (ba4 fun _ _ _ _ _ _ _ _ _ _ => rfl) j12 fun i k => ⟨D4.mq, u12x4, i, D4.kc⟩, jg (ba1 fun _ _ _ _ _ _ _ => rfl) j13 fun i k => ⟨u13x4, i, k⟩, jg (ba1 fun _ _ _ _ _ _ _ => rfl) j14 fun i k => ⟨u14x4, i, k⟩, jg (ba2 fun _ _ _ _ _ _ _ _ => rfl) j15 fun i k => ⟨D5.mq, u15x5, i, D5.kc⟩, jg (ba2 fun _ _ _ _ _ _ _ _ => rfl) j16 fun i k => ⟨D8.mq, u16x8, i, D8.kc⟩, jg (ba1 fun _ _ _ _ _ _ _ => rfl) j17 fun i k => ⟨u17x8, i, k⟩, jg (ba2 fun _ _ _ _ _ _ _ _ => rfl) j18 fun i k => ⟨u18x8, i, k⟩, jg (ba3 fun _ _ _ _ _ _ _ _ _ => rfl) j19 fun i k => ⟨D7.mq, u19x7, i, D7.kc⟩, jg (ba1 fun _ _ _ _ _ _ _ => rfl) j20 fun i k => ⟨u20x7, i, k⟩, mg_of X G D0.A, mg_of X G D1.A, mg_of X G D2.A, mg_of X G D3.A, mg_of X G D4.A, mg_of X G D5.A, mg_of X G D6.A, mg_of X G D7.A, mg_of X G D8.A, ⟨D6.mq, oi, D6.kc⟩, FM, ⟨R7, nf7x0, nf7x1, aN D7.mm D7.mm D7.mo D7.ty⟩, ⟨R8, nf8x0⟩, mg_of X G A20, mg_of X G A21, HH B20, Gg B20 NH SK NI B21, GQ B21 rfl rfl E0 E1 E2 E3 cg ctk, ⟨_, _, _, _, _, _, _, _, _, _, _, _, _, _, _, _, _, B21, Z2⟩, E4, (Fy B21 B21).trans Z2, IX, y1, y2, y3⟩
 obtain ⟨f, fd, a, F⟩ := h28
 cases hfa.symm.trans (mg_of X G a)
 obtain ⟨oc, od, kV, doc, pm, an, cdv, ct, osl, rfl, lk, hcd⟩ := id F.ex
 exact ⟨_, fun s v => .of_eq rfl, fun base _ _ => Ie TT F⟩
theorem walk {l : OpenLaw} {q : Program} {loose : List Str} {XP : (Str -> Option Value) -> Heap -> Prop} {YP : World -> Heap -> Prop} {d : DefRec} {K : Params -> Frag} (hn : l.most = some 63) (hdf : d.params.defaults = [])
  (hY : ∀ (w : World) (h : Heap), YP w h -> (K w.params).In h)
  (F : ∀ (w : World) (mg : Str -> Option Value) (fa : Addr) (h : Heap), (K w.params).In h -> h.Ns mainGlobals mg -> mg d.name = some (.ref fa) ->
   ∃ fd : FuncData, (∀ (s : Shared) (u : Value), BindsTo s fd ⟨[u], []⟩ [("_law_script", u)]) /\ ∀ base : Heap, (K w.params).In base -> base.Ns mainGlobals mg -> aM l.prog w (K w.params) mg base CX0 9 fa fd ["_law_script"] (zj (K w.params))) :
  WalkO q loose XP YP l.row.toRowW d [] (fun f vs => PySem.call f vs) :=
 L2.Fj (n := 63) (k := 9) (x := "_law_script") (CX := fun _ => CX0) (sp := fun w => zj (K w.params)) hn Z0 hdf ⟨rfl, Z0, Z0⟩ hY F (fun _ _ a ns hl _ hS => ⟨a, ns, rfl, hS, hl, fun _ => rfl⟩) fun _ _ _ _ _ z => z
noncomputable section
abbrev ke (P : Params) (x : Str) (t : Nat) (v : Value) : DictEntry := ⟨PyData.keyHash P x, .str x t, v⟩
open PySem in
abbrev kf (s : Stmt) (n q m : Str) (t c : Nat) : Obj := { cls := .type "function", data := .func { name := n, qualname := q, params := L2.cH s, body := .stmts (L2.bR s), scope := L2.aC s, globals := 3, closure := [], defaults := .none, kwdefaults := .none, pyModule := .str m t, code := .ref c } }
open PySem in
abbrev kc (n q : Str) (a b c : Nat) (l k : Int) (f r : Nat) (t : Bool) (g : Int) (u : Nat) (x y z : Value) (v : Nat) (m : Int) (e : Nat) : Obj := { cls := .type "code", data := .fields #[.str n a, .str q b, .str "/claim/cut.py" c, .int l 0, .int k 0, .int 0 0, .int 0 0, .int f 0, .ref r, .bool t, .int g 0, .ref u, x, y, z, .ref v, .int m 0, .int l 0, .str "/claim/cut.py" e] }
abbrev k20 := kc "_wall" "_wall" 187 188 189 1 1 3 15 true 181 16 .none (.ref 17) (.ref 18) 19 191 192
abbrev k21 := kf (Mine.top 0) "_wall" "_wall" "__main__" 164 20
abbrev k30 (P : PySem.Params) : Obj := { cls := .type "dict", data := .dict #[ke P "__module__" 203 (.str "drawhouse.errors" 194), ke P "__firstlineno__" 207 (.int 5 206), ke P "__static_attributes__" 208 (.ref 29), ke P "__weakref__" 210 (.ref 32), ke P "__doc__" 211 .none] 3 }
abbrev k31 : Obj := { cls := .type "type", data := .cls { name := "HouseError", bases := [.type "ValueError"], mro := [.ref 31, .type "ValueError", .type "Exception", .type "BaseException", .type "object"], ns := 30, qualname := "HouseError", subclasses := [.ref 51, .ref 70, .ref 89, .ref 108, .ref 127] }, slots := #[some (.ref 22), none, some (.str "HouseError" 196), some (.str "HouseError" 204), some (.builtin "ValueError.__new__"), some (.bool true)] }
abbrev k32 : Obj := { cls := .type "getset_descriptor", data := .fields #[.str "__weakref__" 209, .ref 31, .builtin "ExceptionGroup.__weakref__", .none] }
abbrev k47 := kc "__init__" "TooMany.__init__" 226 227 228 9 2 3 42 true 181 43 .none (.ref 44) (.ref 45) 46 231 232
abbrev k48 := kf ((Mine.aB (Mine.top 3)).getD 0 (.Pass ⟨0, 0, 0, 0⟩)) "__init__" "TooMany.__init__" "drawhouse.errors" 194 47
abbrev k50 (P : PySem.Params) : Obj := { cls := .type "dict", data := .dict #[ke P "__module__" 221 (.str "drawhouse.errors" 194), ke P "__firstlineno__" 225 (.int 7 224), ke P "__init__" 233 (.ref 48), ke P "__static_attributes__" 235 (.ref 49), ke P "__doc__" 236 .none] 2 }
abbrev k51 : Obj := { cls := .type "type", data := .cls { name := "TooMany", bases := [.ref 31], mro := [.ref 51, .ref 31, .type "ValueError", .type "Exception", .type "BaseException", .type "object"], ns := 50, qualname := "TooMany" }, slots := #[some (.ref 35), none, some (.str "TooMany" 214), some (.str "TooMany" 222), some (.builtin "ValueError.__new__"), some (.bool true)] }
abbrev k66 := kc "__init__" "Double.__init__" 251 252 253 14 2 3 61 true 181 62 .none (.ref 63) (.ref 64) 65 256 257
abbrev k67 := kf ((Mine.aB (Mine.top 4)).getD 0 (.Pass ⟨0, 0, 0, 0⟩)) "__init__" "Double.__init__" "drawhouse.errors" 194 66
abbrev k69 (P : PySem.Params) : Obj := { cls := .type "dict", data := .dict #[ke P "__module__" 246 (.str "drawhouse.errors" 194), ke P "__firstlineno__" 250 (.int 12 249), ke P "__init__" 258 (.ref 67), ke P "__static_attributes__" 260 (.ref 68), ke P "__doc__" 261 .none] 2 }
abbrev k70 : Obj := { cls := .type "type", data := .cls { name := "Double", bases := [.ref 31], mro := [.ref 70, .ref 31, .type "ValueError", .type "Exception", .type "BaseException", .type "object"], ns := 69, qualname := "Double" }, slots := #[some (.ref 54), none, some (.str "Double" 239), some (.str "Double" 247), some (.builtin "ValueError.__new__"), some (.bool true)] }
abbrev k85 := kc "__init__" "Orphan.__init__" 276 277 278 19 2 3 80 true 181 81 .none (.ref 82) (.ref 83) 84 281 282
abbrev k86 := kf ((Mine.aB (Mine.top 5)).getD 0 (.Pass ⟨0, 0, 0, 0⟩)) "__init__" "Orphan.__init__" "drawhouse.errors" 194 85
abbrev k88 (P : PySem.Params) : Obj := { cls := .type "dict", data := .dict #[ke P "__module__" 271 (.str "drawhouse.errors" 194), ke P "__firstlineno__" 275 (.int 17 274), ke P "__init__" 283 (.ref 86), ke P "__static_attributes__" 285 (.ref 87), ke P "__doc__" 286 .none] 2 }
abbrev k89 : Obj := { cls := .type "type", data := .cls { name := "Orphan", bases := [.ref 31], mro := [.ref 89, .ref 31, .type "ValueError", .type "Exception", .type "BaseException", .type "object"], ns := 88, qualname := "Orphan" }, slots := #[some (.ref 73), none, some (.str "Orphan" 264), some (.str "Orphan" 272), some (.builtin "ValueError.__new__"), some (.bool true)] }
abbrev k104 := kc "__init__" "Clash.__init__" 301 302 303 24 2 3 99 true 181 100 .none (.ref 101) (.ref 102) 103 306 307
abbrev k105 := kf ((Mine.aB (Mine.top 6)).getD 0 (.Pass ⟨0, 0, 0, 0⟩)) "__init__" "Clash.__init__" "drawhouse.errors" 194 104
abbrev k107 (P : PySem.Params) : Obj := { cls := .type "dict", data := .dict #[ke P "__module__" 296 (.str "drawhouse.errors" 194), ke P "__firstlineno__" 300 (.int 22 299), ke P "__init__" 308 (.ref 105), ke P "__static_attributes__" 310 (.ref 106), ke P "__doc__" 311 .none] 2 }
abbrev k108 : Obj := { cls := .type "type", data := .cls { name := "Clash", bases := [.ref 31], mro := [.ref 108, .ref 31, .type "ValueError", .type "Exception", .type "BaseException", .type "object"], ns := 107, qualname := "Clash" }, slots := #[some (.ref 92), none, some (.str "Clash" 289), some (.str "Clash" 297), some (.builtin "ValueError.__new__"), some (.bool true)] }
abbrev k123 := kc "__init__" "NoPart.__init__" 326 327 328 29 2 3 118 true 181 119 .none (.ref 120) (.ref 121) 122 331 332
abbrev k124 := kf ((Mine.aB (Mine.top 7)).getD 0 (.Pass ⟨0, 0, 0, 0⟩)) "__init__" "NoPart.__init__" "drawhouse.errors" 194 123
abbrev k126 (P : PySem.Params) : Obj := { cls := .type "dict", data := .dict #[ke P "__module__" 321 (.str "drawhouse.errors" 194), ke P "__firstlineno__" 325 (.int 27 324), ke P "__init__" 333 (.ref 124), ke P "__static_attributes__" 335 (.ref 125), ke P "__doc__" 336 .none] 2 }
abbrev k127 : Obj := { cls := .type "type", data := .cls { name := "NoPart", bases := [.ref 31], mro := [.ref 127, .ref 31, .type "ValueError", .type "Exception", .type "BaseException", .type "object"], ns := 126, qualname := "NoPart" }, slots := #[some (.ref 111), none, some (.str "NoPart" 314), some (.str "NoPart" 322), some (.builtin "ValueError.__new__"), some (.bool true)] }
abbrev k133 := kc "prefixes" "prefixes" 341 342 343 33 1 3 130 true 181 131 .none .none .none 132 344 345
abbrev k134 := kf (Mine.top 9) "prefixes" "prefixes" "drawhouse.words" 339 133
abbrev k140 := kc "parent_of" "parent_of" 347 348 349 36 1 3 135 true 181 136 .none (.ref 137) (.ref 138) 139 351 352
abbrev k141 := kf (Mine.top 10) "parent_of" "parent_of" "drawhouse.words" 339 140
abbrev k154 := kc "binds" "Row.binds" 368 369 370 41 1 3 149 true 181 150 .none (.ref 151) (.ref 152) 153 372 373
abbrev k155 := kf ((Mine.aB (Mine.top 12)).getD 0 (.Pass ⟨0, 0, 0, 0⟩)) "binds" "Row.binds" "drawhouse.rows" 354 154
abbrev k161 := kc "asked" "Row.asked" 375 376 377 44 1 3 156 true 181 157 .none (.ref 158) (.ref 159) 160 379 380
abbrev k162 := kf ((Mine.aB (Mine.top 12)).getD 1 (.Pass ⟨0, 0, 0, 0⟩)) "asked" "Row.asked" "drawhouse.rows" 354 161
abbrev k168 := kc "said" "Row.said" 382 383 384 47 1 3 163 true 181 164 .none (.ref 165) (.ref 166) 167 386 387
abbrev k169 := kf ((Mine.aB (Mine.top 12)).getD 2 (.Pass ⟨0, 0, 0, 0⟩)) "said" "Row.said" "drawhouse.rows" 354 168
abbrev k171 (P : PySem.Params) : Obj := { cls := .type "dict", data := .dict #[ke P "__module__" 363 (.str "drawhouse.rows" 354), ke P "__firstlineno__" 367 (.int 39 366), ke P "binds" 374 (.ref 155), ke P "asked" 381 (.ref 162), ke P "said" 388 (.ref 169), ke P "__static_attributes__" 389 (.ref 170), ke P "__dict__" 391 (.ref 173), ke P "__weakref__" 393 (.ref 174), ke P "__doc__" 394 .none] 4 }
abbrev k172 : Obj := { cls := .type "type", data := .cls { name := "Row", bases := [.type "object"], mro := [.ref 172, .type "object"], ns := 171, qualname := "Row", subclasses := [.ref 207, .ref 240, .ref 280, .ref 320, .ref 360, .ref 386] }, slots := #[none, none, some (.str "Row" 356), some (.str "Row" 364), some (.builtin "object.__new__"), some (.bool true)] }
abbrev k173 : Obj := { cls := .type "getset_descriptor", data := .fields #[.str "__dict__" 390, .ref 172, .builtin "function.__dict__", .builtin "function.__dict__#set"] }
abbrev k174 : Obj := { cls := .type "getset_descriptor", data := .fields #[.str "__weakref__" 392, .ref 172, .builtin "ExceptionGroup.__weakref__", .none] }
abbrev k189 := kc "__init__" "Let.__init__" 409 410 411 51 3 3 184 true 181 185 .none (.ref 186) (.ref 187) 188 415 416
abbrev k190 := kf ((Mine.aB (Mine.top 13)).getD 0 (.Pass ⟨0, 0, 0, 0⟩)) "__init__" "Let.__init__" "drawhouse.rows" 354 189
abbrev k196 := kc "binds" "Let.binds" 418 419 420 55 1 3 191 true 181 192 .none (.ref 193) (.ref 194) 195 422 423
abbrev k197 := kf ((Mine.aB (Mine.top 13)).getD 1 (.Pass ⟨0, 0, 0, 0⟩)) "binds" "Let.binds" "drawhouse.rows" 354 196
abbrev k203 := kc "said" "Let.said" 425 426 427 58 1 3 198 true 181 199 .none (.ref 200) (.ref 201) 202 429 430
abbrev k204 := kf ((Mine.aB (Mine.top 13)).getD 2 (.Pass ⟨0, 0, 0, 0⟩)) "said" "Let.said" "drawhouse.rows" 354 203
abbrev k206 (P : PySem.Params) : Obj := { cls := .type "dict", data := .dict #[ke P "__module__" 404 (.str "drawhouse.rows" 354), ke P "__firstlineno__" 408 (.int 49 407), ke P "__init__" 417 (.ref 190), ke P "binds" 424 (.ref 197), ke P "said" 431 (.ref 204), ke P "__static_attributes__" 434 (.ref 205), ke P "__doc__" 435 .none] 2 }
abbrev k207 : Obj := { cls := .type "type", data := .cls { name := "Let", bases := [.ref 172], mro := [.ref 207, .ref 172, .type "object"], ns := 206, qualname := "Let" }, slots := #[some (.ref 177), none, some (.str "Let" 397), some (.str "Let" 405), some (.builtin "object.__new__"), some (.bool true)] }
abbrev k222 := kc "__init__" "Deed.__init__" 450 451 452 62 3 3 217 true 181 218 .none (.ref 219) (.ref 220) 221 456 457
abbrev k223 := kf ((Mine.aB (Mine.top 14)).getD 0 (.Pass ⟨0, 0, 0, 0⟩)) "__init__" "Deed.__init__" "drawhouse.rows" 354 222
abbrev k229 := kc "binds" "Deed.binds" 459 460 461 66 1 3 224 true 181 225 .none (.ref 226) (.ref 227) 228 463 464
abbrev k230 := kf ((Mine.aB (Mine.top 14)).getD 1 (.Pass ⟨0, 0, 0, 0⟩)) "binds" "Deed.binds" "drawhouse.rows" 354 229
abbrev k236 := kc "said" "Deed.said" 466 467 468 69 1 3 231 true 181 232 .none (.ref 233) (.ref 234) 235 470 471
abbrev k237 := kf ((Mine.aB (Mine.top 14)).getD 2 (.Pass ⟨0, 0, 0, 0⟩)) "said" "Deed.said" "drawhouse.rows" 354 236
abbrev k239 (P : PySem.Params) : Obj := { cls := .type "dict", data := .dict #[ke P "__module__" 445 (.str "drawhouse.rows" 354), ke P "__firstlineno__" 449 (.int 60 448), ke P "__init__" 458 (.ref 223), ke P "binds" 465 (.ref 230), ke P "said" 472 (.ref 237), ke P "__static_attributes__" 475 (.ref 238), ke P "__doc__" 476 .none] 2 }
abbrev k240 : Obj := { cls := .type "type", data := .cls { name := "Deed", bases := [.ref 172], mro := [.ref 240, .ref 172, .type "object"], ns := 239, qualname := "Deed" }, slots := #[some (.ref 210), none, some (.str "Deed" 438), some (.str "Deed" 446), some (.builtin "object.__new__"), some (.bool true)] }
abbrev k255 := kc "__init__" "Draw.__init__" 491 492 493 73 3 3 250 true 181 251 .none (.ref 252) (.ref 253) 254 497 498
abbrev k256 := kf ((Mine.aB (Mine.top 15)).getD 0 (.Pass ⟨0, 0, 0, 0⟩)) "__init__" "Draw.__init__" "drawhouse.rows" 354 255
abbrev k262 := kc "binds" "Draw.binds" 500 501 502 77 1 3 257 true 181 258 .none (.ref 259) (.ref 260) 261 504 505
abbrev k263 := kf ((Mine.aB (Mine.top 15)).getD 1 (.Pass ⟨0, 0, 0, 0⟩)) "binds" "Draw.binds" "drawhouse.rows" 354 262
abbrev k269 := kc "asked" "Draw.asked" 507 508 509 80 1 3 264 true 181 265 .none (.ref 266) (.ref 267) 268 511 512
abbrev k270 := kf ((Mine.aB (Mine.top 15)).getD 2 (.Pass ⟨0, 0, 0, 0⟩)) "asked" "Draw.asked" "drawhouse.rows" 354 269
abbrev k276 := kc "said" "Draw.said" 514 515 516 83 1 3 271 true 181 272 .none (.ref 273) (.ref 274) 275 518 519
abbrev k277 := kf ((Mine.aB (Mine.top 15)).getD 3 (.Pass ⟨0, 0, 0, 0⟩)) "said" "Draw.said" "drawhouse.rows" 354 276
abbrev k279 (P : PySem.Params) : Obj := { cls := .type "dict", data := .dict #[ke P "__module__" 486 (.str "drawhouse.rows" 354), ke P "__firstlineno__" 490 (.int 71 489), ke P "__init__" 499 (.ref 256), ke P "binds" 506 (.ref 263), ke P "asked" 513 (.ref 270), ke P "said" 520 (.ref 277), ke P "__static_attributes__" 523 (.ref 278), ke P "__doc__" 524 .none] 2 }
abbrev k280 : Obj := { cls := .type "type", data := .cls { name := "Draw", bases := [.ref 172], mro := [.ref 280, .ref 172, .type "object"], ns := 279, qualname := "Draw" }, slots := #[some (.ref 243), none, some (.str "Draw" 479), some (.str "Draw" 487), some (.builtin "object.__new__"), some (.bool true)] }
abbrev k295 := kc "__init__" "Late.__init__" 539 540 541 87 3 3 290 true 181 291 .none (.ref 292) (.ref 293) 294 545 546
abbrev k296 := kf ((Mine.aB (Mine.top 16)).getD 0 (.Pass ⟨0, 0, 0, 0⟩)) "__init__" "Late.__init__" "drawhouse.rows" 354 295
abbrev k302 := kc "binds" "Late.binds" 548 549 550 91 1 3 297 true 181 298 .none (.ref 299) (.ref 300) 301 552 553
abbrev k303 := kf ((Mine.aB (Mine.top 16)).getD 1 (.Pass ⟨0, 0, 0, 0⟩)) "binds" "Late.binds" "drawhouse.rows" 354 302
abbrev k309 := kc "asked" "Late.asked" 555 556 557 94 1 3 304 true 181 305 .none (.ref 306) (.ref 307) 308 559 560
abbrev k310 := kf ((Mine.aB (Mine.top 16)).getD 2 (.Pass ⟨0, 0, 0, 0⟩)) "asked" "Late.asked" "drawhouse.rows" 354 309
abbrev k316 := kc "said" "Late.said" 562 563 564 97 1 3 311 true 181 312 .none (.ref 313) (.ref 314) 315 566 567
abbrev k317 := kf ((Mine.aB (Mine.top 16)).getD 3 (.Pass ⟨0, 0, 0, 0⟩)) "said" "Late.said" "drawhouse.rows" 354 316
abbrev k319 (P : PySem.Params) : Obj := { cls := .type "dict", data := .dict #[ke P "__module__" 534 (.str "drawhouse.rows" 354), ke P "__firstlineno__" 538 (.int 85 537), ke P "__init__" 547 (.ref 296), ke P "binds" 554 (.ref 303), ke P "asked" 561 (.ref 310), ke P "said" 568 (.ref 317), ke P "__static_attributes__" 571 (.ref 318), ke P "__doc__" 572 .none] 2 }
abbrev k320 : Obj := { cls := .type "type", data := .cls { name := "Late", bases := [.ref 172], mro := [.ref 320, .ref 172, .type "object"], ns := 319, qualname := "Late" }, slots := #[some (.ref 283), none, some (.str "Late" 527), some (.str "Late" 535), some (.builtin "object.__new__"), some (.bool true)] }
abbrev k335 := kc "__init__" "Take.__init__" 587 588 589 101 4 3 330 true 181 331 .none (.ref 332) (.ref 333) 334 594 595
abbrev k336 := kf ((Mine.aB (Mine.top 17)).getD 0 (.Pass ⟨0, 0, 0, 0⟩)) "__init__" "Take.__init__" "drawhouse.rows" 354 335
abbrev k342 := kc "binds" "Take.binds" 597 598 599 106 1 3 337 true 181 338 .none (.ref 339) (.ref 340) 341 601 602
abbrev k343 := kf ((Mine.aB (Mine.top 17)).getD 1 (.Pass ⟨0, 0, 0, 0⟩)) "binds" "Take.binds" "drawhouse.rows" 354 342
abbrev k349 := kc "asked" "Take.asked" 604 605 606 109 1 3 344 true 181 345 .none (.ref 346) (.ref 347) 348 608 609
abbrev k350 := kf ((Mine.aB (Mine.top 17)).getD 2 (.Pass ⟨0, 0, 0, 0⟩)) "asked" "Take.asked" "drawhouse.rows" 354 349
abbrev k356 := kc "said" "Take.said" 611 612 613 112 1 3 351 true 181 352 .none (.ref 353) (.ref 354) 355 615 616
abbrev k357 := kf ((Mine.aB (Mine.top 17)).getD 3 (.Pass ⟨0, 0, 0, 0⟩)) "said" "Take.said" "drawhouse.rows" 354 356
abbrev k359 (P : PySem.Params) : Obj := { cls := .type "dict", data := .dict #[ke P "__module__" 582 (.str "drawhouse.rows" 354), ke P "__firstlineno__" 586 (.int 99 585), ke P "__init__" 596 (.ref 336), ke P "binds" 603 (.ref 343), ke P "asked" 610 (.ref 350), ke P "said" 617 (.ref 357), ke P "__static_attributes__" 621 (.ref 358), ke P "__doc__" 622 .none] 2 }
abbrev k360 : Obj := { cls := .type "type", data := .cls { name := "Take", bases := [.ref 172], mro := [.ref 360, .ref 172, .type "object"], ns := 359, qualname := "Take" }, slots := #[some (.ref 323), none, some (.str "Take" 575), some (.str "Take" 583), some (.builtin "object.__new__"), some (.bool true)] }
abbrev k375 := kc "__init__" "Need.__init__" 637 638 639 116 2 3 370 true 181 371 .none (.ref 372) (.ref 373) 374 642 643
abbrev k376 := kf ((Mine.aB (Mine.top 18)).getD 0 (.Pass ⟨0, 0, 0, 0⟩)) "__init__" "Need.__init__" "drawhouse.rows" 354 375
abbrev k382 := kc "said" "Need.said" 645 646 647 119 1 3 377 true 181 378 .none (.ref 379) (.ref 380) 381 649 650
abbrev k383 := kf ((Mine.aB (Mine.top 18)).getD 1 (.Pass ⟨0, 0, 0, 0⟩)) "said" "Need.said" "drawhouse.rows" 354 382
abbrev k385 (P : PySem.Params) : Obj := { cls := .type "dict", data := .dict #[ke P "__module__" 632 (.str "drawhouse.rows" 354), ke P "__firstlineno__" 636 (.int 114 635), ke P "__init__" 644 (.ref 376), ke P "said" 651 (.ref 383), ke P "__static_attributes__" 653 (.ref 384), ke P "__doc__" 654 .none] 2 }
abbrev k386 : Obj := { cls := .type "type", data := .cls { name := "Need", bases := [.ref 172], mro := [.ref 386, .ref 172, .type "object"], ns := 385, qualname := "Need" }, slots := #[some (.ref 363), none, some (.str "Need" 625), some (.str "Need" 633), some (.builtin "object.__new__"), some (.bool true)] }
abbrev k394 := kc "named_by" "named_by" 659 660 661 122 1 3 389 true 181 390 .none (.ref 391) (.ref 392) 393 665 666
abbrev k395 := kf (Mine.top 20) "named_by" "named_by" "drawhouse.links" 657 394
abbrev k399 := kc "links" "links" 668 669 670 129 2 3 396 true 181 397 .none .none .none 398 671 672
abbrev k400 := kf (Mine.top 21) "links" "links" "drawhouse.links" 657 399
abbrev k406 := kc "all_links" "all_links" 674 675 676 135 1 3 401 true 181 402 .none (.ref 403) (.ref 404) 405 680 681
abbrev k407 := kf (Mine.top 22) "all_links" "all_links" "drawhouse.links" 657 406
abbrev k413 := kc "reached" "reached" 683 684 685 140 2 3 408 true 181 409 .none (.ref 410) (.ref 411) 412 691 692
abbrev k414 := kf (Mine.top 23) "reached" "reached" "drawhouse.links" 657 413
abbrev k418 := kc "knot_of" "knot_of" 696 697 698 150 2 3 415 true 181 416 .none .none .none 417 699 700
abbrev k419 := kf (Mine.top 25) "knot_of" "knot_of" "drawhouse.knots" 694 418
abbrev k425 := kc "may_come" "may_come" 702 703 704 152 3 3 420 true 181 421 .none (.ref 422) (.ref 423) 424 710 711
abbrev k426 := kf (Mine.top 26) "may_come" "may_come" "drawhouse.knots" 694 425
abbrev k430 := kc "in_order" "in_order" 713 714 715 158 2 3 427 true 181 428 .none .none .none 429 716 717
abbrev k431 := kf (Mine.top 27) "in_order" "in_order" "drawhouse.knots" 694 430
abbrev k435 := kc "knots" "knots" 719 720 721 168 1 3 432 true 181 433 .none .none .none 434 722 723
abbrev k436 := kf (Mine.top 28) "knots" "knots" "drawhouse.knots" 694 435
abbrev k442 := kc "is_orphan" "is_orphan" 729 730 731 177 2 3 437 true 181 438 .none (.ref 439) (.ref 440) 441 735 736
abbrev k443 := kf (Mine.top 31) "is_orphan" "is_orphan" "drawhouse.house" 725 442
abbrev k447 := kc "is_clash" "is_clash" 738 739 740 180 2 3 444 true 181 445 .none .none .none 446 741 742
abbrev k448 := kf (Mine.top 32) "is_clash" "is_clash" "drawhouse.house" 725 447
abbrev k452 := kc "check_parts" "check_parts" 744 745 746 182 1 3 449 true 181 450 .none .none .none 451 747 748
abbrev k453 := kf (Mine.top 33) "check_parts" "check_parts" "drawhouse.house" 725 452
abbrev k466 := kc "__init__" "House.__init__" 762 763 764 195 2 3 461 true 181 462 .none (.ref 463) (.ref 464) 465 767 768
abbrev k467 := kf ((Mine.aB (Mine.top 34)).getD 0 (.Pass ⟨0, 0, 0, 0⟩)) "__init__" "House.__init__" "drawhouse.house" 725 466
abbrev k471 := kc "addresses" "House.addresses" 770 771 772 199 1 3 468 true 181 469 .none .none .none 470 773 774
abbrev k472 := kf ((Mine.aB (Mine.top 34)).getD 1 (.Pass ⟨0, 0, 0, 0⟩)) "addresses" "House.addresses" "drawhouse.house" 725 471
abbrev k478 := kc "has" "House.has" 776 777 778 202 2 3 473 true 181 474 .none (.ref 475) (.ref 476) 477 781 782
abbrev k479 := kf ((Mine.aB (Mine.top 34)).getD 2 (.Pass ⟨0, 0, 0, 0⟩)) "has" "House.has" "drawhouse.house" 725 478
abbrev k485 := kc "part" "House.part" 784 785 786 205 2 3 480 true 181 481 .none (.ref 482) (.ref 483) 484 790 791
abbrev k486 := kf ((Mine.aB (Mine.top 34)).getD 3 (.Pass ⟨0, 0, 0, 0⟩)) "part" "House.part" "drawhouse.house" 725 485
abbrev k492 := kc "with_part" "House.with_part" 793 794 795 211 2 3 487 true 181 488 .none (.ref 489) (.ref 490) 491 798 799
abbrev k493 := kf ((Mine.aB (Mine.top 34)).getD 4 (.Pass ⟨0, 0, 0, 0⟩)) "with_part" "House.with_part" "drawhouse.house" 725 492
abbrev k499 := kc "without" "House.without" 801 802 803 214 2 3 494 true 181 495 .none (.ref 496) (.ref 497) 498 806 807
abbrev k500 := kf ((Mine.aB (Mine.top 34)).getD 5 (.Pass ⟨0, 0, 0, 0⟩)) "without" "House.without" "drawhouse.house" 725 499
abbrev k502 (P : PySem.Params) : Obj := { cls := .type "dict", data := .dict #[ke P "__module__" 757 (.str "drawhouse.house" 725), ke P "__firstlineno__" 761 (.int 193 760), ke P "__init__" 769 (.ref 467), ke P "addresses" 775 (.ref 472), ke P "has" 783 (.ref 479), ke P "part" 792 (.ref 486), ke P "with_part" 800 (.ref 493), ke P "without" 808 (.ref 500), ke P "__static_attributes__" 810 (.ref 501), ke P "__dict__" 812 (.ref 504), ke P "__weakref__" 814 (.ref 505), ke P "__doc__" 815 .none] 4 }
abbrev k503 : Obj := { cls := .type "type", data := .cls { name := "House", bases := [.type "object"], mro := [.ref 503, .type "object"], ns := 502, qualname := "House" }, slots := #[none, none, some (.str "House" 750), some (.str "House" 758), some (.builtin "object.__new__"), some (.bool true)] }
abbrev k504 : Obj := { cls := .type "getset_descriptor", data := .fields #[.str "__dict__" 811, .ref 503, .builtin "function.__dict__", .builtin "function.__dict__#set"] }
abbrev k505 : Obj := { cls := .type "getset_descriptor", data := .fields #[.str "__weakref__" 813, .ref 503, .builtin "ExceptionGroup.__weakref__", .none] }
abbrev k520 := kc "__init__" "Part.__init__" 832 833 834 219 3 3 515 true 181 516 .none (.ref 517) (.ref 518) 519 838 839
abbrev k521 := kf ((Mine.aB (Mine.top 36)).getD 0 (.Pass ⟨0, 0, 0, 0⟩)) "__init__" "Part.__init__" "drawhouse.parts" 818 520
abbrev k525 := kc "bound" "Part.bound" 841 842 843 223 1 3 522 true 181 523 .none .none .none 524 844 845
abbrev k526 := kf ((Mine.aB (Mine.top 36)).getD 1 (.Pass ⟨0, 0, 0, 0⟩)) "bound" "Part.bound" "drawhouse.parts" 818 525
abbrev k532 := kc "place_of" "Part.place_of" 847 848 849 227 2 3 527 true 181 528 .none (.ref 529) (.ref 530) 531 852 853
abbrev k533 := kf ((Mine.aB (Mine.top 36)).getD 2 (.Pass ⟨0, 0, 0, 0⟩)) "place_of" "Part.place_of" "drawhouse.parts" 818 532
abbrev k539 := kc "text" "Part.text" 855 856 857 230 1 3 534 true 181 535 .none (.ref 536) (.ref 537) 538 859 860
abbrev k540 := kf ((Mine.aB (Mine.top 36)).getD 3 (.Pass ⟨0, 0, 0, 0⟩)) "text" "Part.text" "drawhouse.parts" 818 539
abbrev k542 (P : PySem.Params) : Obj := { cls := .type "dict", data := .dict #[ke P "__module__" 827 (.str "drawhouse.parts" 818), ke P "__firstlineno__" 831 (.int 217 830), ke P "__init__" 840 (.ref 521), ke P "bound" 846 (.ref 526), ke P "place_of" 854 (.ref 533), ke P "text" 861 (.ref 540), ke P "__static_attributes__" 864 (.ref 541), ke P "__dict__" 866 (.ref 544), ke P "__weakref__" 868 (.ref 545), ke P "__doc__" 869 .none] 4 }
abbrev k543 : Obj := { cls := .type "type", data := .cls { name := "Part", bases := [.type "object"], mro := [.ref 543, .type "object"], ns := 542, qualname := "Part" }, slots := #[none, none, some (.str "Part" 820), some (.str "Part" 828), some (.builtin "object.__new__"), some (.bool true)] }
abbrev k544 : Obj := { cls := .type "getset_descriptor", data := .fields #[.str "__dict__" 865, .ref 543, .builtin "function.__dict__", .builtin "function.__dict__#set"] }
abbrev k545 : Obj := { cls := .type "getset_descriptor", data := .fields #[.str "__weakref__" 867, .ref 543, .builtin "ExceptionGroup.__weakref__", .none] }
abbrev k553 := kc "_law_cell" "_law_cell" 874 875 876 233 2 3 548 true 181 549 .none (.ref 550) (.ref 551) 552 879 880
abbrev k554 := kf (Mine.top 38) "_law_cell" "_law_cell" "law_drawhouse_k36_knots" 872 553
abbrev k560 := kc "_law_pick" "_law_pick" 882 883 884 237 3 3 555 true 181 556 .none (.ref 557) (.ref 558) 559 891 892
abbrev k561 := kf (Mine.top 39) "_law_pick" "_law_pick" "law_drawhouse_k36_knots" 872 560
abbrev k565 := kc "_law_words" "_law_words" 894 895 896 246 1 3 562 true 181 563 .none .none .none 564 897 898
abbrev k566 := kf (Mine.top 40) "_law_words" "_law_words" "law_drawhouse_k36_knots" 872 565
abbrev k570 := kc "_law_addresses" "_law_addresses" 900 901 902 259 3 3 567 true 181 568 .none .none .none 569 903 904
abbrev k571 := kf (Mine.top 41) "_law_addresses" "_law_addresses" "law_drawhouse_k36_knots" 872 570
abbrev k575 := kc "_law_prefixes" "_law_prefixes" 906 907 908 272 1 3 572 true 181 573 .none .none .none 574 909 910
abbrev k576 := kf (Mine.top 42) "_law_prefixes" "_law_prefixes" "law_drawhouse_k36_knots" 872 575
abbrev k582 := kc "_law_asked" "_law_asked" 912 913 914 275 3 3 577 true 181 578 .none (.ref 579) (.ref 580) 581 920 921
abbrev k583 := kf (Mine.top 43) "_law_asked" "_law_asked" "law_drawhouse_k36_knots" 872 582
abbrev k587 := kc "_law_drawn" "_law_drawn" 923 924 925 283 4 3 584 true 181 585 .none .none .none 586 926 927
abbrev k588 := kf (Mine.top 44) "_law_drawn" "_law_drawn" "law_drawhouse_k36_knots" 872 587
abbrev k592 := kc "_law_rows" "_law_rows" 929 930 931 296 3 3 589 true 181 590 .none .none .none 591 932 933
abbrev k593 := kf (Mine.top 45) "_law_rows" "_law_rows" "law_drawhouse_k36_knots" 872 592
abbrev k599 := kc "_law_row" "_law_row" 935 936 937 308 1 3 594 true 181 595 .none (.ref 596) (.ref 597) 598 944 945
abbrev k600 := kf (Mine.top 46) "_law_row" "_law_row" "law_drawhouse_k36_knots" 872 599
abbrev k604 := kc "_law_parts" "_law_parts" 947 948 949 324 2 3 601 true 181 602 .none .none .none 603 950 951
abbrev k605 := kf (Mine.top 47) "_law_parts" "_law_parts" "law_drawhouse_k36_knots" 872 604
abbrev k611 := kc "_law_made" "_law_made" 953 954 955 326 1 3 606 true 181 607 .none (.ref 608) (.ref 609) 610 960 961
abbrev k612 := kf (Mine.top 48) "_law_made" "_law_made" "law_drawhouse_k36_knots" 872 611
abbrev k616 := kc "_law_links" "_law_links" 963 964 965 333 3 3 613 true 181 614 .none .none .none 615 966 967
abbrev k617 := kf (Mine.top 49) "_law_links" "_law_links" "law_drawhouse_k36_knots" 872 616
abbrev k621 := kc "_law_behind" "_law_behind" 969 970 971 341 2 3 618 true 181 619 .none .none .none 620 972 973
abbrev k622 := kf (Mine.top 50) "_law_behind" "_law_behind" "law_drawhouse_k36_knots" 872 621
abbrev k626 := kc "_law_due" "_law_due" 975 976 977 354 2 3 623 true 181 624 .none .none .none 625 978 979
abbrev k627 := kf (Mine.top 51) "_law_due" "_law_due" "law_drawhouse_k36_knots" 872 626
abbrev k631 := kc "_law_long" "_law_long" 981 982 983 378 2 3 628 true 181 629 .none .none .none 630 984 985
abbrev k632 := kf (Mine.top 52) "_law_long" "_law_long" "law_drawhouse_k36_knots" 872 631
abbrev k638 := kc "law" "law" 987 988 989 388 1 3 633 true 181 634 .none (.ref 635) (.ref 636) 637 998 999
abbrev k639 := kf (Mine.top 53) "law" "law" "law_drawhouse_k36_knots" 872 638
open PySem in
def myK : PySem.Params -> Frag := fun P =>
 (nat_lit 2, { cls := Value.none, data := Data.dict #[] }) ::
 (nat_lit 3, { cls := .type "dict", data := .dict #[ke P "__name__" 165 (.str "law_drawhouse_k36_knots" 872), ke P "__doc__" 166 .none, ke P "__package__" 167 .none, ke P "__loader__" 168 (.builtin "__main__.__loader__#opaque"), ke P "__spec__" 169 .none, ke P "__annotations__" 170 (.ref 6), ke P "__builtins__" 171 (.ref 4), ke P "__file__" 173 (.str "/claim/cut.py" 172), ke P "__cached__" 174 .none, ke P "_wall" 193 (.ref 21), ke P "HouseError" 213 (.ref 31), ke P "TooMany" 238 (.ref 51), ke P "Double" 263 (.ref 70), ke P "Orphan" 288 (.ref 89), ke P "Clash" 313 (.ref 108), ke P "NoPart" 338 (.ref 127), ke P "prefixes" 346 (.ref 134), ke P "parent_of" 353 (.ref 141), ke P "Row" 396 (.ref 172), ke P "Let" 437 (.ref 207), ke P "Deed" 478 (.ref 240), ke P "Draw" 526 (.ref 280), ke P "Late" 574 (.ref 320), ke P "Take" 624 (.ref 360), ke P "Need" 656 (.ref 386), ke P "named_by" 667 (.ref 395), ke P "links" 673 (.ref 400), ke P "all_links" 682 (.ref 407), ke P "reached" 693 (.ref 414), ke P "knot_of" 701 (.ref 419), ke P "may_come" 712 (.ref 426), ke P "in_order" 718 (.ref 431), ke P "knots" 724 (.ref 436), ke P "MOST_PARTS" 728 (.int 12 727), ke P "is_orphan" 737 (.ref 443), ke P "is_clash" 743 (.ref 448), ke P "check_parts" 749 (.ref 453), ke P "House" 817 (.ref 503), ke P "Part" 871 (.ref 543), ke P "_law_cell" 881 (.ref 554), ke P "_law_pick" 893 (.ref 561), ke P "_law_words" 899 (.ref 566), ke P "_law_addresses" 905 (.ref 571), ke P "_law_prefixes" 911 (.ref 576), ke P "_law_asked" 922 (.ref 583), ke P "_law_drawn" 928 (.ref 588), ke P "_law_rows" 934 (.ref 593), ke P "_law_row" 946 (.ref 600), ke P "_law_parts" 952 (.ref 605), ke P "_law_made" 962 (.ref 612), ke P "_law_links" 968 (.ref 617), ke P "_law_behind" 974 (.ref 622), ke P "_law_due" 980 (.ref 627), ke P "_law_long" 986 (.ref 632), ke P "law" 1000 (.ref 639)] 55 }) ::
 (nat_lit 20, k20) ::
 (nat_lit 21, k21) ::
 (nat_lit 30, k30 P) ::
 (nat_lit 31, k31) ::
 (nat_lit 32, k32) ::
 (nat_lit 47, k47) ::
 (nat_lit 48, k48) ::
 (nat_lit 50, k50 P) ::
 (nat_lit 51, k51) ::
 (nat_lit 66, k66) ::
 (nat_lit 67, k67) ::
 (nat_lit 69, k69 P) ::
 (nat_lit 70, k70) ::
 (nat_lit 85, k85) ::
 (nat_lit 86, k86) ::
 (nat_lit 88, k88 P) ::
 (nat_lit 89, k89) ::
 (nat_lit 104, k104) ::
 (nat_lit 105, k105) ::
 (nat_lit 107, k107 P) ::
 (nat_lit 108, k108) ::
 (nat_lit 123, k123) ::
 (nat_lit 124, k124) ::
 (nat_lit 126, k126 P) ::
 (nat_lit 127, k127) ::
 (nat_lit 133, k133) ::
 (nat_lit 134, k134) ::
 (nat_lit 140, k140) ::
 (nat_lit 141, k141) ::
 (nat_lit 154, k154) ::
 (nat_lit 155, k155) ::
 (nat_lit 161, k161) ::
 (nat_lit 162, k162) ::
 (nat_lit 168, k168) ::
 (nat_lit 169, k169) ::
 (nat_lit 171, k171 P) ::
 (nat_lit 172, k172) ::
 (nat_lit 173, k173) ::
 (nat_lit 174, k174) ::
 (nat_lit 189, k189) ::
 (nat_lit 190, k190) ::
 (nat_lit 196, k196) ::
 (nat_lit 197, k197) ::
 (nat_lit 203, k203) ::
 (nat_lit 204, k204) ::
 (nat_lit 206, k206 P) ::
 (nat_lit 207, k207) ::
 (nat_lit 222, k222) ::
 (nat_lit 223, k223) ::
 (nat_lit 229, k229) ::
 (nat_lit 230, k230) ::
 (nat_lit 236, k236) ::
 (nat_lit 237, k237) ::
 (nat_lit 239, k239 P) ::
 (nat_lit 240, k240) ::
 (nat_lit 255, k255) ::
 (nat_lit 256, k256) ::
 (nat_lit 262, k262) ::
 (nat_lit 263, k263) ::
 (nat_lit 269, k269) ::
 (nat_lit 270, k270) ::
 (nat_lit 276, k276) ::
 (nat_lit 277, k277) ::
 (nat_lit 279, k279 P) ::
 (nat_lit 280, k280) ::
 (nat_lit 295, k295) ::
 (nat_lit 296, k296) ::
 (nat_lit 302, k302) ::
 (nat_lit 303, k303) ::
 (nat_lit 309, k309) ::
 (nat_lit 310, k310) ::
 (nat_lit 316, k316) ::
 (nat_lit 317, k317) ::
 (nat_lit 319, k319 P) ::
 (nat_lit 320, k320) ::
 (nat_lit 335, k335) ::
 (nat_lit 336, k336) ::
 (nat_lit 342, k342) ::
 (nat_lit 343, k343) ::
 (nat_lit 349, k349) ::
 (nat_lit 350, k350) ::
 (nat_lit 356, k356) ::
 (nat_lit 357, k357) ::
 (nat_lit 359, k359 P) ::
 (nat_lit 360, k360) ::
 (nat_lit 375, k375) ::
 (nat_lit 376, k376) ::
 (nat_lit 382, k382) ::
 (nat_lit 383, k383) ::
 (nat_lit 385, k385 P) ::
 (nat_lit 386, k386) ::
 (nat_lit 394, k394) ::
 (nat_lit 395, k395) ::
 (nat_lit 399, k399) ::
 (nat_lit 400, k400) ::
 (nat_lit 406, k406) ::
 (nat_lit 407, k407) ::
 (nat_lit 413, k413) ::
 (nat_lit 414, k414) ::
 (nat_lit 418, k418) ::
 (nat_lit 419, k419) ::
 (nat_lit 425, k425) ::
 (nat_lit 426, k426) ::
 (nat_lit 430, k430) ::
 (nat_lit 431, k431) ::
 (nat_lit 435, k435) ::
 (nat_lit 436, k436) ::
 (nat_lit 442, k442) ::
 (nat_lit 443, k443) ::
 (nat_lit 447, k447) ::
 (nat_lit 448, k448) ::
 (nat_lit 452, k452) ::
 (nat_lit 453, k453) ::
 (nat_lit 466, k466) ::
 (nat_lit 467, k467) ::
 (nat_lit 471, k471) ::
 (nat_lit 472, k472) ::
 (nat_lit 478, k478) ::
 (nat_lit 479, k479) ::
 (nat_lit 485, k485) ::
 (nat_lit 486, k486) ::
 (nat_lit 492, k492) ::
 (nat_lit 493, k493) ::
 (nat_lit 499, k499) ::
 (nat_lit 500, k500) ::
 (nat_lit 502, k502 P) ::
 (nat_lit 503, k503) ::
 (nat_lit 504, k504) ::
 (nat_lit 505, k505) ::
 (nat_lit 520, k520) ::
 (nat_lit 521, k521) ::
 (nat_lit 525, k525) ::
 (nat_lit 526, k526) ::
 (nat_lit 532, k532) ::
 (nat_lit 533, k533) ::
 (nat_lit 539, k539) ::
 (nat_lit 540, k540) ::
 (nat_lit 542, k542 P) ::
 (nat_lit 543, k543) ::
 (nat_lit 544, k544) ::
 (nat_lit 545, k545) ::
 (nat_lit 553, k553) ::
 (nat_lit 554, k554) ::
 (nat_lit 560, k560) ::
 (nat_lit 561, k561) ::
 (nat_lit 565, k565) ::
 (nat_lit 566, k566) ::
 (nat_lit 570, k570) ::
 (nat_lit 571, k571) ::
 (nat_lit 575, k575) ::
 (nat_lit 576, k576) ::
 (nat_lit 582, k582) ::
 (nat_lit 583, k583) ::
 (nat_lit 587, k587) ::
 (nat_lit 588, k588) ::
 (nat_lit 592, k592) ::
 (nat_lit 593, k593) ::
 (nat_lit 599, k599) ::
 (nat_lit 600, k600) ::
 (nat_lit 604, k604) ::
 (nat_lit 605, k605) ::
 (nat_lit 611, k611) ::
 (nat_lit 612, k612) ::
 (nat_lit 616, k616) ::
 (nat_lit 617, k617) ::
 (nat_lit 621, k621) ::
 (nat_lit 622, k622) ::
 (nat_lit 626, k626) ::
 (nat_lit 627, k627) ::
 (nat_lit 631, k631) ::
 (nat_lit 632, k632) ::
 (nat_lit 638, k638) ::
 (nat_lit 639, k639) ::
 []
end
end Mine
set_option maxHeartbeats 0
namespace Hd
noncomputable section
open PySem PySem.W PySem.Calls PyProof.Rows
def put (t : BT) : Nat -> Obj -> BT := BT.rec (motive := fun _ => Nat -> Obj -> BT) (fun _ o => .node o .nil .nil) (fun v l r x y i o => match i with | 0 => .node o l r | j + 1 => bif Nat.beq (j % 2) 0 then .node v (x (j / 2) o) r else .node v l (y (j / 2) o)) t
def bB (t : BT) (l : List (Nat × Obj)) : BT := l.foldl (fun t p => put t p.1 p.2) t
def en (P : Params) (x : Str) (t : Nat) (v : Value) : DictEntry := ⟨PyData.keyHash P x, .str x t, v⟩
def fo (s : Stmt) (n q m : Str) (t c : Nat) : Obj := ⟨.type "function", none, .func { name := n, qualname := q, params := L2.cH s, body := .stmts (L2.bR s), scope := L2.aC s, globals := 3, closure := [], defaults := .none, kwdefaults := .none, pyModule := .str m t, code := .ref c }, #[]⟩
def pf (s : Stmt) (n q : Str) : Obj := ⟨.none, none, .func { name := n, qualname := q, params := L2.cH s, body := .stmts (L2.bR s), scope := L2.aC s, globals := 0, closure := [], defaults := .none, kwdefaults := .none }, #[]⟩
def tu (l : List Value) : Obj := ⟨.type "tuple", none, .seq l.toArray, #[]⟩
def eT : Obj := tu []
def eF : Obj := { cls := .none, data := .fields #[] }
def co (n q : Str) (a b c : Nat) (l k : Int) (f r : Nat) (t : Bool) (g : Int) (u : Nat) (x y z : Value) (v : Nat) (m : Int) (e : Nat) : Obj := { cls := .type "code", data := .fields #[.str n a, .str q b, .str "/claim/cut.py" c, .int l 0, .int k 0, .int 0 0, .int 0 0, .int f 0, .ref r, .bool t, .int g 0, .ref u, x, y, z, .ref v, .int m 0, .int l 0, .str "/claim/cut.py" e] }
def env : Env := { scope := pw_drawhouse_k36_knots.main.scope, locals := mainNs, globals := mainNs, cells := [], code := Value.ref 13, frame := some 14 }
def cE : Code := .body (behindTheImports pw_drawhouse_k36_knots) env
def fr : List Frame := [topFrame { line := 0, col := 0, endLine := 0, endCol := 0 }]
def sl (a n : Nat) : List Stmt := ((behindTheImports pw_drawhouse_k36_knots).drop a).take n
def o13 : Obj := { cls := .type "code", data := .fields #[.str "<module>" 182, .str "<module>" 183, .str "/claim/cut.py" 184, .int 1 0, .int 0 0, .int 0 0, .int 0 0, .int 0 0, .ref 11, .bool false, .int 181 0, .ref 12, .none, .none, .none, .none, .int 185 0, .int 1 0, .str "/claim/cut.py" 186] }
def o14 : Obj := { cls := .type "frame", slots := #[some (.ref 13), some (.ref 3), some (.ref 3), none, some (.str "__main__" 164), none, some (.ref 0)] }
def hA0 (P : Params) (r : List Obj) : List Obj := (boot_o_0 P) :: (boot_o_1 P) :: (boot_o_2 P) :: (boot_o_3 P) :: (boot_o_4 P) :: (boot_o_5 P) :: (boot_o_6 P) :: (boot_o_7 P) :: (boot_o_8 P) :: (boot_o_9 P) :: (boot_o_10 P) :: eT :: ({ cls := .none, data := .fields #[] }) :: o13 :: o14 :: r
def hA (P : Params) : Heap := ⟨Array.mk (hA0 P ([])), { }⟩
def Lp (w : World) (os : OsState) : Option (Shared × Thread) := topGo treeTable pw_drawhouse_k36_knots w 11 (some (Value.ref 6)) 12 ⟨boot_heap w.params, Array.mk [], boot_drawn, boot_toks, os⟩ (topStub pw_drawhouse_k36_knots)
def Rp (w : World) (os : OsState) : Option (Shared × Thread) := some (⟨hA w.params, Array.mk [], { }, nat_lit 187, os⟩, ⟨denote treeTable cE, cE, { line := 0, col := 0, endLine := 0, endCol := 0 }, fr⟩)
theorem rLp : Lp = Lp := rfl
name_quick Lp for Hd.Lp by Hd.rLp
theorem rRp : Rp = Rp := rfl
name_quick Rp for Hd.Rp by Hd.rRp
theorem qp : PySem.W.Fast.Lp = PySem.W.Fast.Rp := by kernel_rfl
theorem ep : Lp = Rp := PySem.W.Fast.Lp_eq.trans (qp.trans PySem.W.Fast.Rp_eq.symm)
def U3 (P : Params) : BT := bB .nil ((0, boot_o_0 P) :: (1, boot_o_1 P) :: (2, boot_o_2 P) :: (3, boot_o_3 P) :: (4, boot_o_4 P) :: (5, boot_o_5 P) :: (6, boot_o_6 P) :: (7, boot_o_7 P) :: (8, boot_o_8 P) :: (9, boot_o_9 P) :: (10, boot_o_10 P) :: (11, eT) :: [])
def t0 (P : Params) : BT := bB (U3 P) ((12, { cls := .none, data := .fields #[] }) :: (13, o13) :: (14, o14) :: [])
def Lb (w : World) (os : OsState) : Option (Flow × Shared × Code × Pos) := segRun treeTable pw_drawhouse_k36_knots w 11 (some (Value.ref 6)) 1 1 ⟨hA w.params, Array.mk [], { }, nat_lit 187, os⟩ (blockOf (behindTheImports pw_drawhouse_k36_knots) env cE { line := 0, col := 0, endLine := 0, endCol := 0 } fr)
def Rb (w : World) (os : OsState) : Option (Flow × Shared × Code × Pos) := some (.next, SharedT.abs ⟨t0 w.params, nat_lit 15, { }, Array.mk [], { }, nat_lit 187, os⟩, cE, { line := 0, col := 0, endLine := 0, endCol := 0 })
theorem rLb : Lb = Lb := rfl
name_quick Lb for Hd.Lb by Hd.rLb
theorem rRb : Rb = Rb := rfl
name_quick Rb for Hd.Rb by Hd.rRb
theorem qb : PySem.W.Fast.Lb = PySem.W.Fast.Rb := by kernel_rfl
theorem eb : Lb = Rb := PySem.W.Fast.Lb_eq.trans (qb.trans PySem.W.Fast.Rb_eq.symm)
def n0 (P : Params) (r : List DictEntry) : List DictEntry := en P "__name__" 165 (.str "drawhouse.rows" 354) :: en P "__doc__" 166 .none :: en P "__package__" 167 .none :: en P "__loader__" 168 (.builtin "__main__.__loader__#opaque") :: en P "__spec__" 169 .none :: en P "__annotations__" 170 (.ref 6) :: en P "__builtins__" 171 (.ref 4) :: en P "__file__" 173 (.str "/claim/cut.py" 172) :: en P "__cached__" 174 .none :: en P "_wall" 193 (.ref 21) :: en P "HouseError" 213 (.ref 31) :: en P "TooMany" 238 (.ref 51) :: en P "Double" 263 (.ref 70) :: en P "Orphan" 288 (.ref 89) :: en P "Clash" 313 (.ref 108) :: en P "NoPart" 338 (.ref 127) :: en P "prefixes" 346 (.ref 134) :: en P "parent_of" 353 (.ref 141) :: r
def o17 : Obj := tu [.str "k" 190]
def o19 : Obj := pf (Mine.top 0) "_wall" "_wall"
def o22 : Obj := tu [.type "ValueError"]
def o23 : Obj := { cls := .type "builtin_function_or_method", data := .fields #[.builtin "type.__prepare__", .type "type"] }
def o24 (P : Params) : Obj := { cls := .type "dict", data := .dict #[en P "__module__" 203 (.str "drawhouse.errors" 194), en P "__qualname__" 205 (.str "HouseError" 204), en P "__firstlineno__" 207 (.int 5 206), en P "__static_attributes__" 208 (.ref 29)] 4 }
def o27 : Obj := { cls := .type "code", data := .fields #[.str "HouseError" 198, .str "HouseError" 199, .str "/claim/cut.py" 200, .int 5 0, .int 0 0, .int 0 0, .int 0 0, .int 0 0, .ref 25, .bool false, .int 181 0, .ref 26, .none, .none, .none, .none, .int 201 0, .int 5 0, .str "/claim/cut.py" 202] }
def o28 : Obj := { cls := .type "frame", slots := #[some (.ref 27), some (.ref 3), some (.ref 24), none, some (.str "drawhouse.errors" 194), none, some (.ref 0)] }
def o33 : Obj := { cls := .type "super", data := .fields #[.ref 31, .ref 31, .ref 31] }
def o34 : Obj := { cls := .type "builtin_function_or_method", data := .fields #[.builtin "object.__init_subclass__", .ref 31] }
def o35 : Obj := tu [.ref 31]
def o36 : Obj := { cls := .type "builtin_function_or_method", data := .fields #[.builtin "type.__prepare__", .type "type"] }
def o37 (P : Params) : Obj := { cls := .type "dict", data := .dict #[en P "__module__" 221 (.str "drawhouse.errors" 194), en P "__qualname__" 223 (.str "TooMany" 222), en P "__firstlineno__" 225 (.int 7 224), en P "__init__" 233 (.ref 48), en P "__static_attributes__" 235 (.ref 49)] 5 }
def o39 : Obj := { cls := .none, data := .fields #[.int 9 0, .int 4 0, .ref 47] }
def o40 : Obj := { cls := .type "code", data := .fields #[.str "TooMany" 216, .str "TooMany" 217, .str "/claim/cut.py" 218, .int 7 0, .int 0 0, .int 0 0, .int 0 0, .int 0 0, .ref 38, .bool false, .int 181 0, .ref 39, .none, .none, .none, .none, .int 219 0, .int 7 0, .str "/claim/cut.py" 220] }
def o41 : Obj := { cls := .type "frame", slots := #[some (.ref 40), some (.ref 3), some (.ref 37), none, some (.str "drawhouse.errors" 194), none, some (.ref 0)] }
def o44 : Obj := tu [.str "self" 229, .str "at" 230]
def o46 : Obj := pf ((Mine.aB (Mine.top 3)).getD 0 (.Pass ⟨0, 0, 0, 0⟩)) "__init__" "TooMany.__init__"
def o49 : Obj := tu [.str "at" 234]
def o52 : Obj := { cls := .type "super", data := .fields #[.ref 51, .ref 51, .ref 51] }
def o53 : Obj := { cls := .type "builtin_function_or_method", data := .fields #[.builtin "object.__init_subclass__", .ref 51] }
def o54 : Obj := tu [.ref 31]
def o55 : Obj := { cls := .type "builtin_function_or_method", data := .fields #[.builtin "type.__prepare__", .type "type"] }
def o56 (P : Params) : Obj := { cls := .type "dict", data := .dict #[en P "__module__" 246 (.str "drawhouse.errors" 194), en P "__qualname__" 248 (.str "Double" 247), en P "__firstlineno__" 250 (.int 12 249), en P "__init__" 258 (.ref 67), en P "__static_attributes__" 260 (.ref 68)] 5 }
def o58 : Obj := { cls := .none, data := .fields #[.int 14 0, .int 4 0, .ref 66] }
def o59 : Obj := { cls := .type "code", data := .fields #[.str "Double" 241, .str "Double" 242, .str "/claim/cut.py" 243, .int 12 0, .int 0 0, .int 0 0, .int 0 0, .int 0 0, .ref 57, .bool false, .int 181 0, .ref 58, .none, .none, .none, .none, .int 244 0, .int 12 0, .str "/claim/cut.py" 245] }
def o60 : Obj := { cls := .type "frame", slots := #[some (.ref 59), some (.ref 3), some (.ref 56), none, some (.str "drawhouse.errors" 194), none, some (.ref 0)] }
def o63 : Obj := tu [.str "self" 254, .str "at" 255]
def o65 : Obj := pf ((Mine.aB (Mine.top 4)).getD 0 (.Pass ⟨0, 0, 0, 0⟩)) "__init__" "Double.__init__"
def o68 : Obj := tu [.str "at" 259]
def o71 : Obj := { cls := .type "super", data := .fields #[.ref 70, .ref 70, .ref 70] }
def o72 : Obj := { cls := .type "builtin_function_or_method", data := .fields #[.builtin "object.__init_subclass__", .ref 70] }
def o73 : Obj := tu [.ref 31]
def o74 : Obj := { cls := .type "builtin_function_or_method", data := .fields #[.builtin "type.__prepare__", .type "type"] }
def o75 (P : Params) : Obj := { cls := .type "dict", data := .dict #[en P "__module__" 271 (.str "drawhouse.errors" 194), en P "__qualname__" 273 (.str "Orphan" 272), en P "__firstlineno__" 275 (.int 17 274), en P "__init__" 283 (.ref 86), en P "__static_attributes__" 285 (.ref 87)] 5 }
def o77 : Obj := { cls := .none, data := .fields #[.int 19 0, .int 4 0, .ref 85] }
def o78 : Obj := { cls := .type "code", data := .fields #[.str "Orphan" 266, .str "Orphan" 267, .str "/claim/cut.py" 268, .int 17 0, .int 0 0, .int 0 0, .int 0 0, .int 0 0, .ref 76, .bool false, .int 181 0, .ref 77, .none, .none, .none, .none, .int 269 0, .int 17 0, .str "/claim/cut.py" 270] }
def o79 : Obj := { cls := .type "frame", slots := #[some (.ref 78), some (.ref 3), some (.ref 75), none, some (.str "drawhouse.errors" 194), none, some (.ref 0)] }
def o82 : Obj := tu [.str "self" 279, .str "at" 280]
def o84 : Obj := pf ((Mine.aB (Mine.top 5)).getD 0 (.Pass ⟨0, 0, 0, 0⟩)) "__init__" "Orphan.__init__"
def o87 : Obj := tu [.str "at" 284]
def o90 : Obj := { cls := .type "super", data := .fields #[.ref 89, .ref 89, .ref 89] }
def o91 : Obj := { cls := .type "builtin_function_or_method", data := .fields #[.builtin "object.__init_subclass__", .ref 89] }
def o92 : Obj := tu [.ref 31]
def o93 : Obj := { cls := .type "builtin_function_or_method", data := .fields #[.builtin "type.__prepare__", .type "type"] }
def o94 (P : Params) : Obj := { cls := .type "dict", data := .dict #[en P "__module__" 296 (.str "drawhouse.errors" 194), en P "__qualname__" 298 (.str "Clash" 297), en P "__firstlineno__" 300 (.int 22 299), en P "__init__" 308 (.ref 105), en P "__static_attributes__" 310 (.ref 106)] 5 }
def o96 : Obj := { cls := .none, data := .fields #[.int 24 0, .int 4 0, .ref 104] }
def o97 : Obj := { cls := .type "code", data := .fields #[.str "Clash" 291, .str "Clash" 292, .str "/claim/cut.py" 293, .int 22 0, .int 0 0, .int 0 0, .int 0 0, .int 0 0, .ref 95, .bool false, .int 181 0, .ref 96, .none, .none, .none, .none, .int 294 0, .int 22 0, .str "/claim/cut.py" 295] }
def o98 : Obj := { cls := .type "frame", slots := #[some (.ref 97), some (.ref 3), some (.ref 94), none, some (.str "drawhouse.errors" 194), none, some (.ref 0)] }
def Mh : Obj := tu [.str "self" 304, .str "at" 305]
def RM : Obj := pf ((Mine.aB (Mine.top 6)).getD 0 (.Pass ⟨0, 0, 0, 0⟩)) "__init__" "Clash.__init__"
def Mu : Obj := tu [.str "at" 309]
def QB : Obj := { cls := .type "super", data := .fields #[.ref 108, .ref 108, .ref 108] }
def Sw : Obj := { cls := .type "builtin_function_or_method", data := .fields #[.builtin "object.__init_subclass__", .ref 108] }
def o111 : Obj := tu [.ref 31]
def Qa : Obj := { cls := .type "builtin_function_or_method", data := .fields #[.builtin "type.__prepare__", .type "type"] }
def RC (P : Params) : Obj := { cls := .type "dict", data := .dict #[en P "__module__" 321 (.str "drawhouse.errors" 194), en P "__qualname__" 323 (.str "NoPart" 322), en P "__firstlineno__" 325 (.int 27 324), en P "__init__" 333 (.ref 124), en P "__static_attributes__" 335 (.ref 125)] 5 }
def Qu : Obj := { cls := .none, data := .fields #[.int 29 0, .int 4 0, .ref 123] }
def Qq : Obj := { cls := .type "code", data := .fields #[.str "NoPart" 316, .str "NoPart" 317, .str "/claim/cut.py" 318, .int 27 0, .int 0 0, .int 0 0, .int 0 0, .int 0 0, .ref 114, .bool false, .int 181 0, .ref 115, .none, .none, .none, .none, .int 319 0, .int 27 0, .str "/claim/cut.py" 320] }
def SQ : Obj := { cls := .type "frame", slots := #[some (.ref 116), some (.ref 3), some (.ref 113), none, some (.str "drawhouse.errors" 194), none, some (.ref 0)] }
def JK : Obj := tu [.str "self" 329, .str "address" 330]
def KH : Obj := pf ((Mine.aB (Mine.top 7)).getD 0 (.Pass ⟨0, 0, 0, 0⟩)) "__init__" "NoPart.__init__"
def QM : Obj := tu [.str "address" 334]
def O7 : Obj := { cls := .type "super", data := .fields #[.ref 127, .ref 127, .ref 127] }
def Kd : Obj := { cls := .type "builtin_function_or_method", data := .fields #[.builtin "object.__init_subclass__", .ref 127] }
def RK : Obj := pf (Mine.top 9) "prefixes" "prefixes"
def NP : Obj := tu [.str "address" 350]
def Ln : Obj := pf (Mine.top 10) "parent_of" "parent_of"
def UL (P : Params) : BT := bB (t0 P) ((3, { cls := .type "dict", data := .dict (List.toArray (n0 P ([]))) 18 }) :: (12, { cls := .none, data := .fields #[.int 1 0, .int 0 0, .ref 20, .int 5 0, .int 0 0, .ref 27, .int 7 0, .int 0 0, .ref 40, .int 12 0, .int 0 0, .ref 59, .int 17 0, .int 0 0, .ref 78, .int 22 0, .int 0 0, .ref 97, .int 27 0, .int 0 0, .ref 116, .int 33 0, .int 0 0, .ref 133, .int 36 0, .int 0 0, .ref 140] }) :: (15, eT) :: (16, eF) :: (17, o17) :: (18, eT) :: (19, o19) :: (20, Mine.k20) :: (21, Mine.k21) :: (22, o22) :: (23, o23) :: (24, o24 P) :: [])
def TX (P : Params) : BT := bB (UL P) ((25, eT) :: (26, eF) :: (27, o27) :: (28, o28) :: (29, eT) :: (30, Mine.k30 P) :: (31, Mine.k31) :: (32, Mine.k32) :: (33, o33) :: (34, o34) :: (35, o35) :: (36, o36) :: [])
def U6 (P : Params) : BT := bB (TX P) ((37, o37 P) :: (38, eT) :: (39, o39) :: (40, o40) :: (41, o41) :: (42, eT) :: (43, eF) :: (44, o44) :: (45, eT) :: (46, o46) :: (47, Mine.k47) :: (48, Mine.k48) :: [])
def Vi (P : Params) : BT := bB (U6 P) ((49, o49) :: (50, Mine.k50 P) :: (51, Mine.k51) :: (52, o52) :: (53, o53) :: (54, o54) :: (55, o55) :: (56, o56 P) :: (57, eT) :: (58, o58) :: (59, o59) :: (60, o60) :: [])
def U0 (P : Params) : BT := bB (Vi P) ((61, eT) :: (62, eF) :: (63, o63) :: (64, eT) :: (65, o65) :: (66, Mine.k66) :: (67, Mine.k67) :: (68, o68) :: (69, Mine.k69 P) :: (70, Mine.k70) :: (71, o71) :: (72, o72) :: [])
def Ub (P : Params) : BT := bB (U0 P) ((73, o73) :: (74, o74) :: (75, o75 P) :: (76, eT) :: (77, o77) :: (78, o78) :: (79, o79) :: (80, eT) :: (81, eF) :: (82, o82) :: (83, eT) :: (84, o84) :: [])
def U8 (P : Params) : BT := bB (Ub P) ((85, Mine.k85) :: (86, Mine.k86) :: (87, o87) :: (88, Mine.k88 P) :: (89, Mine.k89) :: (90, o90) :: (91, o91) :: (92, o92) :: (93, o93) :: (94, o94 P) :: (95, eT) :: (96, o96) :: [])
def U5 (P : Params) : BT := bB (U8 P) ((97, o97) :: (98, o98) :: (99, eT) :: (100, eF) :: (101, Mh) :: (102, eT) :: (103, RM) :: (104, Mine.k104) :: (105, Mine.k105) :: (106, Mu) :: (107, Mine.k107 P) :: (108, Mine.k108) :: [])
def Ud (P : Params) : BT := bB (U5 P) ((109, QB) :: (110, Sw) :: (111, o111) :: (112, Qa) :: (113, RC P) :: (114, eT) :: (115, Qu) :: (116, Qq) :: (117, SQ) :: (118, eT) :: (119, eF) :: (120, JK) :: [])
def T8 (P : Params) : BT := bB (Ud P) ((121, eT) :: (122, KH) :: (123, Mine.k123) :: (124, Mine.k124) :: (125, QM) :: (126, Mine.k126 P) :: (127, Mine.k127) :: (128, O7) :: (129, Kd) :: (130, eT) :: (131, eF) :: (132, RK) :: [])
def t1 (P : Params) : BT := bB (T8 P) ((133, Mine.k133) :: (134, Mine.k134) :: (135, eT) :: (136, eF) :: (137, NP) :: (138, eT) :: (139, Ln) :: (140, Mine.k140) :: (141, Mine.k141) :: [])
def L0 (w : World) (os : OsState) : Option (Flow × SharedT × Code × Pos) := segRunT treeTable pw_drawhouse_k36_knots w 11 (some (Value.ref 6)) 1 1523 ⟨t0 w.params, nat_lit 15, { }, Array.mk [], { }, nat_lit 187, os⟩ (piecesOf (sl 0 12) env cE { line := 0, col := 0, endLine := 0, endCol := 0 } fr)
def R0 (w : World) (os : OsState) : Option (Flow × SharedT × Code × Pos) := some (.next, ⟨t1 w.params, nat_lit 142, { }, Array.mk [], { }, nat_lit 356, os⟩, cE, { line := 38, col := 0, endLine := 38, endCol := 8 })
theorem rL0 : L0 = L0 := rfl
name_quick L0 for Hd.L0 by Hd.rL0
theorem rR0 : R0 = R0 := rfl
name_quick R0 for Hd.R0 by Hd.rR0
theorem q0 : PySem.W.Fast.L0 = PySem.W.Fast.R0 := by kernel_rfl
theorem e0 : L0 = R0 := PySem.W.Fast.L0_eq.trans (q0.trans PySem.W.Fast.R0_eq.symm)
def n1 (P : Params) (r : List DictEntry) : List DictEntry := en P "Row" 396 (.ref 172) :: en P "Let" 437 (.ref 207) :: en P "Deed" 478 (.ref 240) :: en P "Draw" 526 (.ref 280) :: en P "Late" 574 (.ref 320) :: r
def QW : Obj := { cls := .type "builtin_function_or_method", data := .fields #[.builtin "type.__prepare__", .type "type"] }
def Rr (P : Params) : Obj := { cls := .type "dict", data := .dict #[en P "__module__" 363 (.str "drawhouse.rows" 354), en P "__qualname__" 365 (.str "Row" 364), en P "__firstlineno__" 367 (.int 39 366), en P "binds" 374 (.ref 155), en P "asked" 381 (.ref 162), en P "said" 388 (.ref 169), en P "__static_attributes__" 389 (.ref 170)] 7 }
def Ng : Obj := { cls := .none, data := .fields #[.int 41 0, .int 4 0, .ref 154, .int 44 0, .int 4 0, .ref 161, .int 47 0, .int 4 0, .ref 168] }
def Ss : Obj := { cls := .type "code", data := .fields #[.str "Row" 358, .str "Row" 359, .str "/claim/cut.py" 360, .int 39 0, .int 0 0, .int 0 0, .int 0 0, .int 0 0, .ref 145, .bool false, .int 181 0, .ref 146, .none, .none, .none, .none, .int 361 0, .int 39 0, .str "/claim/cut.py" 362] }
def Kh : Obj := { cls := .type "frame", slots := #[some (.ref 147), some (.ref 3), some (.ref 144), none, some (.str "drawhouse.rows" 354), none, some (.ref 0)] }
def Sy : Obj := tu [.str "self" 371]
def Qw : Obj := pf ((Mine.aB (Mine.top 12)).getD 0 (.Pass ⟨0, 0, 0, 0⟩)) "binds" "Row.binds"
def Nj : Obj := tu [.str "self" 378]
def Ms : Obj := pf ((Mine.aB (Mine.top 12)).getD 1 (.Pass ⟨0, 0, 0, 0⟩)) "asked" "Row.asked"
def Rw : Obj := tu [.str "self" 385]
def Mr : Obj := pf ((Mine.aB (Mine.top 12)).getD 2 (.Pass ⟨0, 0, 0, 0⟩)) "said" "Row.said"
def Ro : Obj := { cls := .type "super", data := .fields #[.ref 172, .ref 172, .ref 172] }
def Kz : Obj := { cls := .type "builtin_function_or_method", data := .fields #[.builtin "object.__init_subclass__", .ref 172] }
def Ml : Obj := tu [.ref 172]
def QG : Obj := { cls := .type "builtin_function_or_method", data := .fields #[.builtin "type.__prepare__", .type "type"] }
def S8 (P : Params) : Obj := { cls := .type "dict", data := .dict #[en P "__module__" 404 (.str "drawhouse.rows" 354), en P "__qualname__" 406 (.str "Let" 405), en P "__firstlineno__" 408 (.int 49 407), en P "__init__" 417 (.ref 190), en P "binds" 424 (.ref 197), en P "said" 431 (.ref 204), en P "__static_attributes__" 434 (.ref 205)] 7 }
def J6 : Obj := { cls := .none, data := .fields #[.int 51 0, .int 4 0, .ref 189, .int 55 0, .int 4 0, .ref 196, .int 58 0, .int 4 0, .ref 203] }
def Su : Obj := { cls := .type "code", data := .fields #[.str "Let" 399, .str "Let" 400, .str "/claim/cut.py" 401, .int 49 0, .int 0 0, .int 0 0, .int 0 0, .int 0 0, .ref 180, .bool false, .int 181 0, .ref 181, .none, .none, .none, .none, .int 402 0, .int 49 0, .str "/claim/cut.py" 403] }
def Kp : Obj := { cls := .type "frame", slots := #[some (.ref 182), some (.ref 3), some (.ref 179), none, some (.str "drawhouse.rows" 354), none, some (.ref 0)] }
def Qk : Obj := tu [.str "self" 412, .str "name" 413, .str "terms" 414]
def Ly : Obj := pf ((Mine.aB (Mine.top 13)).getD 0 (.Pass ⟨0, 0, 0, 0⟩)) "__init__" "Let.__init__"
def J5 : Obj := tu [.str "self" 421]
def Ol : Obj := pf ((Mine.aB (Mine.top 13)).getD 1 (.Pass ⟨0, 0, 0, 0⟩)) "binds" "Let.binds"
def o200 : Obj := tu [.str "self" 428]
def MK : Obj := pf ((Mine.aB (Mine.top 13)).getD 2 (.Pass ⟨0, 0, 0, 0⟩)) "said" "Let.said"
def NZ : Obj := tu [.str "name" 432, .str "terms" 433]
def Ke : Obj := { cls := .type "super", data := .fields #[.ref 207, .ref 207, .ref 207] }
def Ka : Obj := { cls := .type "builtin_function_or_method", data := .fields #[.builtin "object.__init_subclass__", .ref 207] }
def Mg : Obj := tu [.ref 172]
def Qi : Obj := { cls := .type "builtin_function_or_method", data := .fields #[.builtin "type.__prepare__", .type "type"] }
def Ov (P : Params) : Obj := { cls := .type "dict", data := .dict #[en P "__module__" 445 (.str "drawhouse.rows" 354), en P "__qualname__" 447 (.str "Deed" 446), en P "__firstlineno__" 449 (.int 60 448), en P "__init__" 458 (.ref 223), en P "binds" 465 (.ref 230), en P "said" 472 (.ref 237), en P "__static_attributes__" 475 (.ref 238)] 7 }
def Nb : Obj := { cls := .none, data := .fields #[.int 62 0, .int 4 0, .ref 222, .int 66 0, .int 4 0, .ref 229, .int 69 0, .int 4 0, .ref 236] }
def O1 : Obj := { cls := .type "code", data := .fields #[.str "Deed" 440, .str "Deed" 441, .str "/claim/cut.py" 442, .int 60 0, .int 0 0, .int 0 0, .int 0 0, .int 0 0, .ref 213, .bool false, .int 181 0, .ref 214, .none, .none, .none, .none, .int 443 0, .int 60 0, .str "/claim/cut.py" 444] }
def Np : Obj := { cls := .type "frame", slots := #[some (.ref 215), some (.ref 3), some (.ref 212), none, some (.str "drawhouse.rows" 354), none, some (.ref 0)] }
def N8 : Obj := tu [.str "self" 453, .str "name" 454, .str "terms" 455]
def Kw : Obj := pf ((Mine.aB (Mine.top 14)).getD 0 (.Pass ⟨0, 0, 0, 0⟩)) "__init__" "Deed.__init__"
def Sx : Obj := tu [.str "self" 462]
def LC : Obj := pf ((Mine.aB (Mine.top 14)).getD 1 (.Pass ⟨0, 0, 0, 0⟩)) "binds" "Deed.binds"
def Sd : Obj := tu [.str "self" 469]
def KZ : Obj := pf ((Mine.aB (Mine.top 14)).getD 2 (.Pass ⟨0, 0, 0, 0⟩)) "said" "Deed.said"
def Nx : Obj := tu [.str "name" 473, .str "terms" 474]
def Mw : Obj := { cls := .type "super", data := .fields #[.ref 240, .ref 240, .ref 240] }
def RP : Obj := { cls := .type "builtin_function_or_method", data := .fields #[.builtin "object.__init_subclass__", .ref 240] }
def Qt : Obj := tu [.ref 172]
def La : Obj := { cls := .type "builtin_function_or_method", data := .fields #[.builtin "type.__prepare__", .type "type"] }
def QT (P : Params) : Obj := { cls := .type "dict", data := .dict #[en P "__module__" 486 (.str "drawhouse.rows" 354), en P "__qualname__" 488 (.str "Draw" 487), en P "__firstlineno__" 490 (.int 71 489), en P "__init__" 499 (.ref 256), en P "binds" 506 (.ref 263), en P "asked" 513 (.ref 270), en P "said" 520 (.ref 277), en P "__static_attributes__" 523 (.ref 278)] 8 }
def MP : Obj := { cls := .none, data := .fields #[.int 73 0, .int 4 0, .ref 255, .int 77 0, .int 4 0, .ref 262, .int 80 0, .int 4 0, .ref 269, .int 83 0, .int 4 0, .ref 276] }
def Tc : Obj := { cls := .type "code", data := .fields #[.str "Draw" 481, .str "Draw" 482, .str "/claim/cut.py" 483, .int 71 0, .int 0 0, .int 0 0, .int 0 0, .int 0 0, .ref 246, .bool false, .int 181 0, .ref 247, .none, .none, .none, .none, .int 484 0, .int 71 0, .str "/claim/cut.py" 485] }
def K4 : Obj := { cls := .type "frame", slots := #[some (.ref 248), some (.ref 3), some (.ref 245), none, some (.str "drawhouse.rows" 354), none, some (.ref 0)] }
def Pr : Obj := tu [.str "self" 494, .str "address" 495, .str "name" 496]
def O5 : Obj := pf ((Mine.aB (Mine.top 15)).getD 0 (.Pass ⟨0, 0, 0, 0⟩)) "__init__" "Draw.__init__"
def OD : Obj := tu [.str "self" 503]
def RJ : Obj := pf ((Mine.aB (Mine.top 15)).getD 1 (.Pass ⟨0, 0, 0, 0⟩)) "binds" "Draw.binds"
def PN : Obj := tu [.str "self" 510]
def Qn : Obj := pf ((Mine.aB (Mine.top 15)).getD 2 (.Pass ⟨0, 0, 0, 0⟩)) "asked" "Draw.asked"
def JR : Obj := tu [.str "self" 517]
def JN : Obj := pf ((Mine.aB (Mine.top 15)).getD 3 (.Pass ⟨0, 0, 0, 0⟩)) "said" "Draw.said"
def S7 : Obj := tu [.str "address" 521, .str "name" 522]
def J0 : Obj := { cls := .type "super", data := .fields #[.ref 280, .ref 280, .ref 280] }
def Nh : Obj := { cls := .type "builtin_function_or_method", data := .fields #[.builtin "object.__init_subclass__", .ref 280] }
def JX : Obj := tu [.ref 172]
def J3 : Obj := { cls := .type "builtin_function_or_method", data := .fields #[.builtin "type.__prepare__", .type "type"] }
def M8 (P : Params) : Obj := { cls := .type "dict", data := .dict #[en P "__module__" 534 (.str "drawhouse.rows" 354), en P "__qualname__" 536 (.str "Late" 535), en P "__firstlineno__" 538 (.int 85 537), en P "__init__" 547 (.ref 296), en P "binds" 554 (.ref 303), en P "asked" 561 (.ref 310), en P "said" 568 (.ref 317), en P "__static_attributes__" 571 (.ref 318)] 8 }
def K3 : Obj := { cls := .none, data := .fields #[.int 87 0, .int 4 0, .ref 295, .int 91 0, .int 4 0, .ref 302, .int 94 0, .int 4 0, .ref 309, .int 97 0, .int 4 0, .ref 316] }
def KD : Obj := { cls := .type "code", data := .fields #[.str "Late" 529, .str "Late" 530, .str "/claim/cut.py" 531, .int 85 0, .int 0 0, .int 0 0, .int 0 0, .int 0 0, .ref 286, .bool false, .int 181 0, .ref 287, .none, .none, .none, .none, .int 532 0, .int 85 0, .str "/claim/cut.py" 533] }
def J1 : Obj := { cls := .type "frame", slots := #[some (.ref 288), some (.ref 3), some (.ref 285), none, some (.str "drawhouse.rows" 354), none, some (.ref 0)] }
def Td : Obj := tu [.str "self" 542, .str "address" 543, .str "name" 544]
def Rn : Obj := pf ((Mine.aB (Mine.top 16)).getD 0 (.Pass ⟨0, 0, 0, 0⟩)) "__init__" "Late.__init__"
def QD : Obj := tu [.str "self" 551]
def K9 : Obj := pf ((Mine.aB (Mine.top 16)).getD 1 (.Pass ⟨0, 0, 0, 0⟩)) "binds" "Late.binds"
def Lw : Obj := tu [.str "self" 558]
def Rj : Obj := pf ((Mine.aB (Mine.top 16)).getD 2 (.Pass ⟨0, 0, 0, 0⟩)) "asked" "Late.asked"
def KY : Obj := tu [.str "self" 565]
def Rv : Obj := pf ((Mine.aB (Mine.top 16)).getD 3 (.Pass ⟨0, 0, 0, 0⟩)) "said" "Late.said"
def NB : Obj := tu [.str "address" 569, .str "name" 570]
def O6 : Obj := { cls := .type "super", data := .fields #[.ref 320, .ref 320, .ref 320] }
def Om : Obj := { cls := .type "builtin_function_or_method", data := .fields #[.builtin "object.__init_subclass__", .ref 320] }
def UV (P : Params) : BT := bB (t1 P) ((3, { cls := .type "dict", data := .dict (List.toArray (n0 P (n1 P ([])))) 23 }) :: (12, { cls := .none, data := .fields #[.int 1 0, .int 0 0, .ref 20, .int 5 0, .int 0 0, .ref 27, .int 7 0, .int 0 0, .ref 40, .int 12 0, .int 0 0, .ref 59, .int 17 0, .int 0 0, .ref 78, .int 22 0, .int 0 0, .ref 97, .int 27 0, .int 0 0, .ref 116, .int 33 0, .int 0 0, .ref 133, .int 36 0, .int 0 0, .ref 140, .int 39 0, .int 0 0, .ref 147, .int 49 0, .int 0 0, .ref 182, .int 60 0, .int 0 0, .ref 215, .int 71 0, .int 0 0, .ref 248, .int 85 0, .int 0 0, .ref 288] }) :: (142, eT) :: (143, QW) :: (144, Rr P) :: (145, eT) :: (146, Ng) :: (147, Ss) :: (148, Kh) :: (149, eT) :: (150, eF) :: (151, Sy) :: [])
def Uv (P : Params) : BT := bB (UV P) ((152, eT) :: (153, Qw) :: (154, Mine.k154) :: (155, Mine.k155) :: (156, eT) :: (157, eF) :: (158, Nj) :: (159, eT) :: (160, Ms) :: (161, Mine.k161) :: (162, Mine.k162) :: (163, eT) :: [])
def Ur (P : Params) : BT := bB (Uv P) ((164, eF) :: (165, Rw) :: (166, eT) :: (167, Mr) :: (168, Mine.k168) :: (169, Mine.k169) :: (170, eT) :: (171, Mine.k171 P) :: (172, { cls := .type "type", data := .cls { name := Str.ofString "Row", bases := [.type "object"], mro := [.ref 172, .type "object"], ns := 171, qualname := Str.ofString "Row", subclasses := [.ref 207, .ref 240, .ref 280, .ref 320] }, slots := #[none, none, some (.str "Row" 356), some (.str "Row" 364), some (.builtin "object.__new__"), some (.bool true)] }) :: (173, Mine.k173) :: (174, Mine.k174) :: (175, Ro) :: [])
def Uo (P : Params) : BT := bB (Ur P) ((176, Kz) :: (177, Ml) :: (178, QG) :: (179, S8 P) :: (180, eT) :: (181, J6) :: (182, Su) :: (183, Kp) :: (184, eT) :: (185, eF) :: (186, Qk) :: (187, eT) :: [])
def Vd (P : Params) : BT := bB (Uo P) ((188, Ly) :: (189, Mine.k189) :: (190, Mine.k190) :: (191, eT) :: (192, eF) :: (193, J5) :: (194, eT) :: (195, Ol) :: (196, Mine.k196) :: (197, Mine.k197) :: (198, eT) :: (199, eF) :: [])
def T4 (P : Params) : BT := bB (Vd P) ((200, o200) :: (201, eT) :: (202, MK) :: (203, Mine.k203) :: (204, Mine.k204) :: (205, NZ) :: (206, Mine.k206 P) :: (207, Mine.k207) :: (208, Ke) :: (209, Ka) :: (210, Mg) :: (211, Qi) :: [])
def Vf (P : Params) : BT := bB (T4 P) ((212, Ov P) :: (213, eT) :: (214, Nb) :: (215, O1) :: (216, Np) :: (217, eT) :: (218, eF) :: (219, N8) :: (220, eT) :: (221, Kw) :: (222, Mine.k222) :: (223, Mine.k223) :: [])
def T5 (P : Params) : BT := bB (Vf P) ((224, eT) :: (225, eF) :: (226, Sx) :: (227, eT) :: (228, LC) :: (229, Mine.k229) :: (230, Mine.k230) :: (231, eT) :: (232, eF) :: (233, Sd) :: (234, eT) :: (235, KZ) :: [])
def Te (P : Params) : BT := bB (T5 P) ((236, Mine.k236) :: (237, Mine.k237) :: (238, Nx) :: (239, Mine.k239 P) :: (240, Mine.k240) :: (241, Mw) :: (242, RP) :: (243, Qt) :: (244, La) :: (245, QT P) :: (246, eT) :: (247, MP) :: [])
def Tp (P : Params) : BT := bB (Te P) ((248, Tc) :: (249, K4) :: (250, eT) :: (251, eF) :: (252, Pr) :: (253, eT) :: (254, O5) :: (255, Mine.k255) :: (256, Mine.k256) :: (257, eT) :: (258, eF) :: (259, OD) :: [])
def Lz (P : Params) : BT := bB (Tp P) ((260, eT) :: (261, RJ) :: (262, Mine.k262) :: (263, Mine.k263) :: (264, eT) :: (265, eF) :: (266, PN) :: (267, eT) :: (268, Qn) :: (269, Mine.k269) :: (270, Mine.k270) :: (271, eT) :: [])
def Kq (P : Params) : BT := bB (Lz P) ((272, eF) :: (273, JR) :: (274, eT) :: (275, JN) :: (276, Mine.k276) :: (277, Mine.k277) :: (278, S7) :: (279, Mine.k279 P) :: (280, Mine.k280) :: (281, J0) :: (282, Nh) :: (283, JX) :: [])
def Pg (P : Params) : BT := bB (Kq P) ((284, J3) :: (285, M8 P) :: (286, eT) :: (287, K3) :: (288, KD) :: (289, J1) :: (290, eT) :: (291, eF) :: (292, Td) :: (293, eT) :: (294, Rn) :: (295, Mine.k295) :: [])
def Oj (P : Params) : BT := bB (Pg P) ((296, Mine.k296) :: (297, eT) :: (298, eF) :: (299, QD) :: (300, eT) :: (301, K9) :: (302, Mine.k302) :: (303, Mine.k303) :: (304, eT) :: (305, eF) :: (306, Lw) :: (307, eT) :: [])
def QV (P : Params) : BT := bB (Oj P) ((308, Rj) :: (309, Mine.k309) :: (310, Mine.k310) :: (311, eT) :: (312, eF) :: (313, KY) :: (314, eT) :: (315, Rv) :: (316, Mine.k316) :: (317, Mine.k317) :: (318, NB) :: (319, Mine.k319 P) :: [])
def t2 (P : Params) : BT := bB (QV P) ((320, Mine.k320) :: (321, O6) :: (322, Om) :: [])
def L1 (w : World) (os : OsState) : Option (Flow × SharedT × Code × Pos) := segRunT treeTable pw_drawhouse_k36_knots w 11 (some (Value.ref 6)) 1 1581 ⟨t1 w.params, nat_lit 142, { }, Array.mk [], { }, nat_lit 356, os⟩ (piecesOf (sl 12 5) env cE { line := 38, col := 0, endLine := 38, endCol := 8 } fr)
def R1 (w : World) (os : OsState) : Option (Flow × SharedT × Code × Pos) := some (.next, ⟨t2 w.params, nat_lit 323, { }, Array.mk [], { }, nat_lit 575, os⟩, cE, { line := 85, col := 0, endLine := 98, endCol := 16 })
theorem rL1 : L1 = L1 := rfl
name_quick L1 for Hd.L1 by Hd.rL1
theorem rR1 : R1 = R1 := rfl
name_quick R1 for Hd.R1 by Hd.rR1
theorem q1 : PySem.W.Fast.L1 = PySem.W.Fast.R1 := by kernel_rfl
theorem e1 : L1 = R1 := PySem.W.Fast.L1_eq.trans (q1.trans PySem.W.Fast.R1_eq.symm)
def n2 (P : Params) (r : List DictEntry) : List DictEntry := en P "__name__" 165 (.str "drawhouse.parts" 818) :: en P "__doc__" 166 .none :: en P "__package__" 167 .none :: en P "__loader__" 168 (.builtin "__main__.__loader__#opaque") :: en P "__spec__" 169 .none :: en P "__annotations__" 170 (.ref 6) :: en P "__builtins__" 171 (.ref 4) :: en P "__file__" 173 (.str "/claim/cut.py" 172) :: en P "__cached__" 174 .none :: en P "_wall" 193 (.ref 21) :: en P "HouseError" 213 (.ref 31) :: en P "TooMany" 238 (.ref 51) :: en P "Double" 263 (.ref 70) :: en P "Orphan" 288 (.ref 89) :: en P "Clash" 313 (.ref 108) :: en P "NoPart" 338 (.ref 127) :: en P "prefixes" 346 (.ref 134) :: en P "parent_of" 353 (.ref 141) :: r
def n3 (P : Params) (r : List DictEntry) : List DictEntry := en P "Take" 624 (.ref 360) :: en P "Need" 656 (.ref 386) :: en P "named_by" 667 (.ref 395) :: en P "links" 673 (.ref 400) :: en P "all_links" 682 (.ref 407) :: en P "reached" 693 (.ref 414) :: en P "knot_of" 701 (.ref 419) :: en P "may_come" 712 (.ref 426) :: en P "in_order" 718 (.ref 431) :: en P "knots" 724 (.ref 436) :: en P "MOST_PARTS" 728 (.int 12 727) :: en P "is_orphan" 737 (.ref 443) :: en P "is_clash" 743 (.ref 448) :: en P "check_parts" 749 (.ref 453) :: en P "House" 817 (.ref 503) :: r
def N7 : Obj := tu [.ref 172]
def Sh : Obj := { cls := .type "builtin_function_or_method", data := .fields #[.builtin "type.__prepare__", .type "type"] }
def Ku (P : Params) : Obj := { cls := .type "dict", data := .dict #[en P "__module__" 582 (.str "drawhouse.rows" 354), en P "__qualname__" 584 (.str "Take" 583), en P "__firstlineno__" 586 (.int 99 585), en P "__init__" 596 (.ref 336), en P "binds" 603 (.ref 343), en P "asked" 610 (.ref 350), en P "said" 617 (.ref 357), en P "__static_attributes__" 621 (.ref 358)] 8 }
def Od : Obj := { cls := .none, data := .fields #[.int 101 0, .int 4 0, .ref 335, .int 106 0, .int 4 0, .ref 342, .int 109 0, .int 4 0, .ref 349, .int 112 0, .int 4 0, .ref 356] }
def Ru : Obj := { cls := .type "code", data := .fields #[.str "Take" 577, .str "Take" 578, .str "/claim/cut.py" 579, .int 99 0, .int 0 0, .int 0 0, .int 0 0, .int 0 0, .ref 326, .bool false, .int 181 0, .ref 327, .none, .none, .none, .none, .int 580 0, .int 99 0, .str "/claim/cut.py" 581] }
def Qx : Obj := { cls := .type "frame", slots := #[some (.ref 328), some (.ref 3), some (.ref 325), none, some (.str "drawhouse.rows" 354), none, some (.ref 0)] }
def Ox : Obj := tu [.str "self" 590, .str "word" 591, .str "address" 592, .str "name" 593]
def Le : Obj := pf ((Mine.aB (Mine.top 17)).getD 0 (.Pass ⟨0, 0, 0, 0⟩)) "__init__" "Take.__init__"
def Ot : Obj := tu [.str "self" 600]
def PK : Obj := pf ((Mine.aB (Mine.top 17)).getD 1 (.Pass ⟨0, 0, 0, 0⟩)) "binds" "Take.binds"
def Ks : Obj := tu [.str "self" 607]
def Oc : Obj := pf ((Mine.aB (Mine.top 17)).getD 2 (.Pass ⟨0, 0, 0, 0⟩)) "asked" "Take.asked"
def Lj : Obj := tu [.str "self" 614]
def Qd : Obj := pf ((Mine.aB (Mine.top 17)).getD 3 (.Pass ⟨0, 0, 0, 0⟩)) "said" "Take.said"
def Nk : Obj := tu [.str "address" 618, .str "name" 619, .str "word" 620]
def O3 : Obj := { cls := .type "super", data := .fields #[.ref 360, .ref 360, .ref 360] }
def Qy : Obj := { cls := .type "builtin_function_or_method", data := .fields #[.builtin "object.__init_subclass__", .ref 360] }
def Ou : Obj := tu [.ref 172]
def JT : Obj := { cls := .type "builtin_function_or_method", data := .fields #[.builtin "type.__prepare__", .type "type"] }
def Qz (P : Params) : Obj := { cls := .type "dict", data := .dict #[en P "__module__" 632 (.str "drawhouse.rows" 354), en P "__qualname__" 634 (.str "Need" 633), en P "__firstlineno__" 636 (.int 114 635), en P "__init__" 644 (.ref 376), en P "said" 651 (.ref 383), en P "__static_attributes__" 653 (.ref 384)] 6 }
def J8 : Obj := { cls := .none, data := .fields #[.int 116 0, .int 4 0, .ref 375, .int 119 0, .int 4 0, .ref 382] }
def Lg : Obj := { cls := .type "code", data := .fields #[.str "Need" 627, .str "Need" 628, .str "/claim/cut.py" 629, .int 114 0, .int 0 0, .int 0 0, .int 0 0, .int 0 0, .ref 366, .bool false, .int 181 0, .ref 367, .none, .none, .none, .none, .int 630 0, .int 114 0, .str "/claim/cut.py" 631] }
def QZ : Obj := { cls := .type "frame", slots := #[some (.ref 368), some (.ref 3), some (.ref 365), none, some (.str "drawhouse.rows" 354), none, some (.ref 0)] }
def Nu : Obj := tu [.str "self" 640, .str "terms" 641]
def M6 : Obj := pf ((Mine.aB (Mine.top 18)).getD 0 (.Pass ⟨0, 0, 0, 0⟩)) "__init__" "Need.__init__"
def Ni : Obj := tu [.str "self" 648]
def Nz : Obj := pf ((Mine.aB (Mine.top 18)).getD 1 (.Pass ⟨0, 0, 0, 0⟩)) "said" "Need.said"
def Qj : Obj := tu [.str "terms" 652]
def Kl : Obj := { cls := .type "super", data := .fields #[.ref 386, .ref 386, .ref 386] }
def QL : Obj := { cls := .type "builtin_function_or_method", data := .fields #[.builtin "object.__init_subclass__", .ref 386] }
def Q8 : Obj := tu [.str "row" 662, .str "named" 663, .str "address" 664]
def OJ : Obj := pf (Mine.top 20) "named_by" "named_by"
def PQ : Obj := pf (Mine.top 21) "links" "links"
def O9 : Obj := tu [.str "house" 677, .str "linked" 678, .str "address" 679]
def K5 : Obj := pf (Mine.top 22) "all_links" "all_links"
def Oh : Obj := tu [.str "linked" 686, .str "address" 687, .str "ahead" 688, .str "found" 689, .str "one" 690]
def Li : Obj := pf (Mine.top 23) "reached" "reached"
def KR : Obj := pf (Mine.top 25) "knot_of" "knot_of"
def Sg : Obj := tu [.str "linked" 705, .str "knot" 706, .str "placed" 707, .str "address" 708, .str "one" 709]
def M3 : Obj := pf (Mine.top 26) "may_come" "may_come"
def S6 : Obj := pf (Mine.top 27) "in_order" "in_order"
def Rg : Obj := pf (Mine.top 28) "knots" "knots"
def Qe : Obj := tu [.str "part" 732, .str "addresses" 733, .str "parent" 734]
def M4 : Obj := pf (Mine.top 31) "is_orphan" "is_orphan"
def Pj : Obj := pf (Mine.top 32) "is_clash" "is_clash"
def O4 : Obj := pf (Mine.top 33) "check_parts" "check_parts"
def MF : Obj := { cls := .type "builtin_function_or_method", data := .fields #[.builtin "type.__prepare__", .type "type"] }
def Nm (P : Params) : Obj := { cls := .type "dict", data := .dict #[en P "__module__" 757 (.str "drawhouse.house" 725), en P "__qualname__" 759 (.str "House" 758), en P "__firstlineno__" 761 (.int 193 760), en P "__init__" 769 (.ref 467), en P "addresses" 775 (.ref 472), en P "has" 783 (.ref 479), en P "part" 792 (.ref 486), en P "with_part" 800 (.ref 493), en P "without" 808 (.ref 500), en P "__static_attributes__" 810 (.ref 501)] 10 }
def JV : Obj := { cls := .none, data := .fields #[.int 195 0, .int 4 0, .ref 466, .int 199 0, .int 4 0, .ref 471, .int 202 0, .int 4 0, .ref 478, .int 205 0, .int 4 0, .ref 485, .int 211 0, .int 4 0, .ref 492, .int 214 0, .int 4 0, .ref 499] }
def NK : Obj := { cls := .type "code", data := .fields #[.str "House" 752, .str "House" 753, .str "/claim/cut.py" 754, .int 193 0, .int 0 0, .int 0 0, .int 0 0, .int 0 0, .ref 457, .bool false, .int 181 0, .ref 458, .none, .none, .none, .none, .int 755 0, .int 193 0, .str "/claim/cut.py" 756] }
def JP : Obj := { cls := .type "frame", slots := #[some (.ref 459), some (.ref 3), some (.ref 456), none, some (.str "drawhouse.house" 725), none, some (.ref 0)] }
def Py : Obj := tu [.str "self" 765, .str "parts" 766]
def JW : Obj := pf ((Mine.aB (Mine.top 34)).getD 0 (.Pass ⟨0, 0, 0, 0⟩)) "__init__" "House.__init__"
def KC : Obj := pf ((Mine.aB (Mine.top 34)).getD 1 (.Pass ⟨0, 0, 0, 0⟩)) "addresses" "House.addresses"
def QK : Obj := tu [.str "self" 779, .str "address" 780]
def Nf : Obj := pf ((Mine.aB (Mine.top 34)).getD 2 (.Pass ⟨0, 0, 0, 0⟩)) "has" "House.has"
def Qo : Obj := tu [.str "self" 787, .str "address" 788, .str "part" 789]
def Q9 : Obj := pf ((Mine.aB (Mine.top 34)).getD 3 (.Pass ⟨0, 0, 0, 0⟩)) "part" "House.part"
def S5 : Obj := tu [.str "self" 796, .str "part" 797]
def Ry : Obj := pf ((Mine.aB (Mine.top 34)).getD 4 (.Pass ⟨0, 0, 0, 0⟩)) "with_part" "House.with_part"
def Qf : Obj := tu [.str "self" 804, .str "address" 805]
def MN : Obj := pf ((Mine.aB (Mine.top 34)).getD 5 (.Pass ⟨0, 0, 0, 0⟩)) "without" "House.without"
def Mt : Obj := tu [.str "told" 809]
def J9 : Obj := { cls := .type "super", data := .fields #[.ref 503, .ref 503, .ref 503] }
def JZ : Obj := { cls := .type "builtin_function_or_method", data := .fields #[.builtin "object.__init_subclass__", .ref 503] }
def Vg (P : Params) : BT := bB (t2 P) ((3, { cls := .type "dict", data := .dict (List.toArray (n2 P (n1 P (n3 P ([]))))) 38 }) :: (12, { cls := .none, data := .fields #[.int 1 0, .int 0 0, .ref 20, .int 5 0, .int 0 0, .ref 27, .int 7 0, .int 0 0, .ref 40, .int 12 0, .int 0 0, .ref 59, .int 17 0, .int 0 0, .ref 78, .int 22 0, .int 0 0, .ref 97, .int 27 0, .int 0 0, .ref 116, .int 33 0, .int 0 0, .ref 133, .int 36 0, .int 0 0, .ref 140, .int 39 0, .int 0 0, .ref 147, .int 49 0, .int 0 0, .ref 182, .int 60 0, .int 0 0, .ref 215, .int 71 0, .int 0 0, .ref 248, .int 85 0, .int 0 0, .ref 288, .int 99 0, .int 0 0, .ref 328, .int 114 0, .int 0 0, .ref 368, .int 122 0, .int 0 0, .ref 394, .int 129 0, .int 0 0, .ref 399, .int 135 0, .int 0 0, .ref 406, .int 140 0, .int 0 0, .ref 413, .int 150 0, .int 0 0, .ref 418, .int 152 0, .int 0 0, .ref 425, .int 158 0, .int 0 0, .ref 430, .int 168 0, .int 0 0, .ref 435, .int 177 0, .int 0 0, .ref 442, .int 180 0, .int 0 0, .ref 447, .int 182 0, .int 0 0, .ref 452, .int 193 0, .int 0 0, .ref 459] }) :: (172, Mine.k172) :: (323, N7) :: (324, Sh) :: (325, Ku P) :: (326, eT) :: (327, Od) :: (328, Ru) :: (329, Qx) :: (330, eT) :: (331, eF) :: [])
def Ui (P : Params) : BT := bB (Vg P) ((332, Ox) :: (333, eT) :: (334, Le) :: (335, Mine.k335) :: (336, Mine.k336) :: (337, eT) :: (338, eF) :: (339, Ot) :: (340, eT) :: (341, PK) :: (342, Mine.k342) :: (343, Mine.k343) :: [])
def UJ (P : Params) : BT := bB (Ui P) ((344, eT) :: (345, eF) :: (346, Ks) :: (347, eT) :: (348, Oc) :: (349, Mine.k349) :: (350, Mine.k350) :: (351, eT) :: (352, eF) :: (353, Lj) :: (354, eT) :: (355, Qd) :: [])
def Vc (P : Params) : BT := bB (UJ P) ((356, Mine.k356) :: (357, Mine.k357) :: (358, Nk) :: (359, Mine.k359 P) :: (360, Mine.k360) :: (361, O3) :: (362, Qy) :: (363, Ou) :: (364, JT) :: (365, Qz P) :: (366, eT) :: (367, J8) :: [])
def Uj (P : Params) : BT := bB (Vc P) ((368, Lg) :: (369, QZ) :: (370, eT) :: (371, eF) :: (372, Nu) :: (373, eT) :: (374, M6) :: (375, Mine.k375) :: (376, Mine.k376) :: (377, eT) :: (378, eF) :: (379, Ni) :: [])
def U4 (P : Params) : BT := bB (Uj P) ((380, eT) :: (381, Nz) :: (382, Mine.k382) :: (383, Mine.k383) :: (384, Qj) :: (385, Mine.k385 P) :: (386, Mine.k386) :: (387, Kl) :: (388, QL) :: (389, eT) :: (390, eF) :: (391, Q8) :: [])
def Tz (P : Params) : BT := bB (U4 P) ((392, eT) :: (393, OJ) :: (394, Mine.k394) :: (395, Mine.k395) :: (396, eT) :: (397, eF) :: (398, PQ) :: (399, Mine.k399) :: (400, Mine.k400) :: (401, eT) :: (402, eF) :: (403, O9) :: [])
def Um (P : Params) : BT := bB (Tz P) ((404, eT) :: (405, K5) :: (406, Mine.k406) :: (407, Mine.k407) :: (408, eT) :: (409, eF) :: (410, Oh) :: (411, eT) :: (412, Li) :: (413, Mine.k413) :: (414, Mine.k414) :: (415, eT) :: [])
def T6 (P : Params) : BT := bB (Um P) ((416, eF) :: (417, KR) :: (418, Mine.k418) :: (419, Mine.k419) :: (420, eT) :: (421, eF) :: (422, Sg) :: (423, eT) :: (424, M3) :: (425, Mine.k425) :: (426, Mine.k426) :: (427, eT) :: [])
def T7 (P : Params) : BT := bB (T6 P) ((428, eF) :: (429, S6) :: (430, Mine.k430) :: (431, Mine.k431) :: (432, eT) :: (433, eF) :: (434, Rg) :: (435, Mine.k435) :: (436, Mine.k436) :: (437, eT) :: (438, eF) :: (439, Qe) :: [])
def Lx (P : Params) : BT := bB (T7 P) ((440, eT) :: (441, M4) :: (442, Mine.k442) :: (443, Mine.k443) :: (444, eT) :: (445, eF) :: (446, Pj) :: (447, Mine.k447) :: (448, Mine.k448) :: (449, eT) :: (450, eF) :: (451, O4) :: [])
def QJ (P : Params) : BT := bB (Lx P) ((452, Mine.k452) :: (453, Mine.k453) :: (454, eT) :: (455, MF) :: (456, Nm P) :: (457, eT) :: (458, JV) :: (459, NK) :: (460, JP) :: (461, eT) :: (462, eF) :: (463, Py) :: [])
def Qm (P : Params) : BT := bB (QJ P) ((464, eT) :: (465, JW) :: (466, Mine.k466) :: (467, Mine.k467) :: (468, eT) :: (469, eF) :: (470, KC) :: (471, Mine.k471) :: (472, Mine.k472) :: (473, eT) :: (474, eF) :: (475, QK) :: [])
def J7 (P : Params) : BT := bB (Qm P) ((476, eT) :: (477, Nf) :: (478, Mine.k478) :: (479, Mine.k479) :: (480, eT) :: (481, eF) :: (482, Qo) :: (483, eT) :: (484, Q9) :: (485, Mine.k485) :: (486, Mine.k486) :: (487, eT) :: [])
def J4 (P : Params) : BT := bB (J7 P) ((488, eF) :: (489, S5) :: (490, eT) :: (491, Ry) :: (492, Mine.k492) :: (493, Mine.k493) :: (494, eT) :: (495, eF) :: (496, Qf) :: (497, eT) :: (498, MN) :: (499, Mine.k499) :: [])
def t3 (P : Params) : BT := bB (J4 P) ((500, Mine.k500) :: (501, Mt) :: (502, Mine.k502 P) :: (503, Mine.k503) :: (504, Mine.k504) :: (505, Mine.k505) :: (506, J9) :: (507, JZ) :: [])
def L2 (w : World) (os : OsState) : Option (Flow × SharedT × Code × Pos) := segRunT treeTable pw_drawhouse_k36_knots w 11 (some (Value.ref 6)) 1 1358 ⟨t2 w.params, nat_lit 323, { }, Array.mk [], { }, nat_lit 575, os⟩ (piecesOf (sl 17 19) env cE { line := 85, col := 0, endLine := 98, endCol := 16 } fr)
def R2 (w : World) (os : OsState) : Option (Flow × SharedT × Code × Pos) := some (.next, ⟨t3 w.params, nat_lit 508, { }, Array.mk [], { }, nat_lit 820, os⟩, cE, { line := 216, col := 0, endLine := 216, endCol := 8 })
theorem rL2 : L2 = L2 := rfl
name_quick L2 for Hd.L2 by Hd.rL2
theorem rR2 : R2 = R2 := rfl
name_quick R2 for Hd.R2 by Hd.rR2
theorem q2 : PySem.W.Fast.L2 = PySem.W.Fast.R2 := by kernel_rfl
theorem e2 : L2 = R2 := PySem.W.Fast.L2_eq.trans (q2.trans PySem.W.Fast.R2_eq.symm)
def n4 (P : Params) (r : List DictEntry) : List DictEntry := en P "__name__" 165 (.str "law_drawhouse_k36_knots" 872) :: en P "__doc__" 166 .none :: en P "__package__" 167 .none :: en P "__loader__" 168 (.builtin "__main__.__loader__#opaque") :: en P "__spec__" 169 .none :: en P "__annotations__" 170 (.ref 6) :: en P "__builtins__" 171 (.ref 4) :: en P "__file__" 173 (.str "/claim/cut.py" 172) :: en P "__cached__" 174 .none :: en P "_wall" 193 (.ref 21) :: en P "HouseError" 213 (.ref 31) :: en P "TooMany" 238 (.ref 51) :: en P "Double" 263 (.ref 70) :: en P "Orphan" 288 (.ref 89) :: en P "Clash" 313 (.ref 108) :: en P "NoPart" 338 (.ref 127) :: en P "prefixes" 346 (.ref 134) :: en P "parent_of" 353 (.ref 141) :: r
def n5 (P : Params) (r : List DictEntry) : List DictEntry := en P "Part" 871 (.ref 543) :: en P "_law_cell" 881 (.ref 554) :: en P "_law_pick" 893 (.ref 561) :: en P "_law_words" 899 (.ref 566) :: en P "_law_addresses" 905 (.ref 571) :: en P "_law_prefixes" 911 (.ref 576) :: en P "_law_asked" 922 (.ref 583) :: en P "_law_drawn" 928 (.ref 588) :: en P "_law_rows" 934 (.ref 593) :: en P "_law_row" 946 (.ref 600) :: en P "_law_parts" 952 (.ref 605) :: en P "_law_made" 962 (.ref 612) :: en P "_law_links" 968 (.ref 617) :: en P "_law_behind" 974 (.ref 622) :: en P "_law_due" 980 (.ref 627) :: en P "_law_long" 986 (.ref 632) :: en P "law" 1000 (.ref 639) :: r
def o3 (P : Params) : Obj := { cls := .type "dict", data := .dict (List.toArray (n4 P (n1 P (n3 P (n5 P ([])))))) 55 }
def o12 : Obj := { cls := .none, data := .fields #[.int 1 0, .int 0 0, .ref 20, .int 5 0, .int 0 0, .ref 27, .int 7 0, .int 0 0, .ref 40, .int 12 0, .int 0 0, .ref 59, .int 17 0, .int 0 0, .ref 78, .int 22 0, .int 0 0, .ref 97, .int 27 0, .int 0 0, .ref 116, .int 33 0, .int 0 0, .ref 133, .int 36 0, .int 0 0, .ref 140, .int 39 0, .int 0 0, .ref 147, .int 49 0, .int 0 0, .ref 182, .int 60 0, .int 0 0, .ref 215, .int 71 0, .int 0 0, .ref 248, .int 85 0, .int 0 0, .ref 288, .int 99 0, .int 0 0, .ref 328, .int 114 0, .int 0 0, .ref 368, .int 122 0, .int 0 0, .ref 394, .int 129 0, .int 0 0, .ref 399, .int 135 0, .int 0 0, .ref 406, .int 140 0, .int 0 0, .ref 413, .int 150 0, .int 0 0, .ref 418, .int 152 0, .int 0 0, .ref 425, .int 158 0, .int 0 0, .ref 430, .int 168 0, .int 0 0, .ref 435, .int 177 0, .int 0 0, .ref 442, .int 180 0, .int 0 0, .ref 447, .int 182 0, .int 0 0, .ref 452, .int 193 0, .int 0 0, .ref 459, .int 217 0, .int 0 0, .ref 513, .int 233 0, .int 0 0, .ref 553, .int 237 0, .int 0 0, .ref 560, .int 246 0, .int 0 0, .ref 565, .int 259 0, .int 0 0, .ref 570, .int 272 0, .int 0 0, .ref 575, .int 275 0, .int 0 0, .ref 582, .int 283 0, .int 0 0, .ref 587, .int 296 0, .int 0 0, .ref 592, .int 308 0, .int 0 0, .ref 599, .int 324 0, .int 0 0, .ref 604, .int 326 0, .int 0 0, .ref 611, .int 333 0, .int 0 0, .ref 616, .int 341 0, .int 0 0, .ref 621, .int 354 0, .int 0 0, .ref 626, .int 378 0, .int 0 0, .ref 631, .int 388 0, .int 0 0, .ref 638] }
def SJ : Obj := { cls := .type "builtin_function_or_method", data := .fields #[.builtin "type.__prepare__", .type "type"] }
def LQ (P : Params) : Obj := { cls := .type "dict", data := .dict #[en P "__module__" 827 (.str "drawhouse.parts" 818), en P "__qualname__" 829 (.str "Part" 828), en P "__firstlineno__" 831 (.int 217 830), en P "__init__" 840 (.ref 521), en P "bound" 846 (.ref 526), en P "place_of" 854 (.ref 533), en P "text" 861 (.ref 540), en P "__static_attributes__" 864 (.ref 541)] 8 }
def QC : Obj := { cls := .none, data := .fields #[.int 219 0, .int 4 0, .ref 520, .int 223 0, .int 4 0, .ref 525, .int 227 0, .int 4 0, .ref 532, .int 230 0, .int 4 0, .ref 539] }
def RZ : Obj := { cls := .type "code", data := .fields #[.str "Part" 822, .str "Part" 823, .str "/claim/cut.py" 824, .int 217 0, .int 0 0, .int 0 0, .int 0 0, .int 0 0, .ref 511, .bool false, .int 181 0, .ref 512, .none, .none, .none, .none, .int 825 0, .int 217 0, .str "/claim/cut.py" 826] }
def PX : Obj := { cls := .type "frame", slots := #[some (.ref 513), some (.ref 3), some (.ref 510), none, some (.str "drawhouse.parts" 818), none, some (.ref 0)] }
def Rm : Obj := tu [.str "self" 835, .str "address" 836, .str "rows" 837]
def RT : Obj := pf ((Mine.aB (Mine.top 36)).getD 0 (.Pass ⟨0, 0, 0, 0⟩)) "__init__" "Part.__init__"
def Rt : Obj := pf ((Mine.aB (Mine.top 36)).getD 1 (.Pass ⟨0, 0, 0, 0⟩)) "bound" "Part.bound"
def NQ : Obj := tu [.str "self" 850, .str "name" 851]
def RQ : Obj := pf ((Mine.aB (Mine.top 36)).getD 2 (.Pass ⟨0, 0, 0, 0⟩)) "place_of" "Part.place_of"
def Kc : Obj := tu [.str "self" 858]
def Mf : Obj := pf ((Mine.aB (Mine.top 36)).getD 3 (.Pass ⟨0, 0, 0, 0⟩)) "text" "Part.text"
def M5 : Obj := tu [.str "address" 862, .str "rows" 863]
def SN : Obj := { cls := .type "super", data := .fields #[.ref 543, .ref 543, .ref 543] }
def S9 : Obj := { cls := .type "builtin_function_or_method", data := .fields #[.builtin "object.__init_subclass__", .ref 543] }
def KN : Obj := tu [.str "_law_script" 877, .str "_law_k" 878]
def Mm : Obj := pf (Mine.top 38) "_law_cell" "_law_cell"
def Mj : Obj := tu [.str "_law_cell_here" 885, .str "_law_k" 886, .str "_law_many" 887, .str "_law_great" 888, .str "_law_by" 889, .str "_law_one" 890]
def Q6 : Obj := pf (Mine.top 39) "_law_pick" "_law_pick"
def RV : Obj := pf (Mine.top 40) "_law_words" "_law_words"
def Nv : Obj := pf (Mine.top 41) "_law_addresses" "_law_addresses"
def QH : Obj := pf (Mine.top 42) "_law_prefixes" "_law_prefixes"
def KQ : Obj := tu [.str "_law_cell_here" 915, .str "_law_addresses_here" 916, .str "_law_words_here" 917, .str "_law_address" 918, .str "_law_word" 919]
def Mv : Obj := pf (Mine.top 43) "_law_asked" "_law_asked"
def R9 : Obj := pf (Mine.top 44) "_law_drawn" "_law_drawn"
def PB : Obj := pf (Mine.top 45) "_law_rows" "_law_rows"
def Qc : Obj := tu [.str "_law_row_here" 938, .str "_law_sort" 939, .str "_law_name" 940, .str "_law_address" 941, .str "_law_word" 942, .str "_law_terms" 943]
def SX : Obj := pf (Mine.top 46) "_law_row" "_law_row"
def Pu : Obj := pf (Mine.top 47) "_law_parts" "_law_parts"
def Pq : Obj := tu [.str "_law_script" 956, .str "_law_words_here" 957, .str "_law_many" 958, .str "_law_addresses_here" 959]
def Lh : Obj := pf (Mine.top 48) "_law_made" "_law_made"
def RX : Obj := pf (Mine.top 49) "_law_links" "_law_links"
def Ql : Obj := pf (Mine.top 50) "_law_behind" "_law_behind"
def N5 : Obj := pf (Mine.top 51) "_law_due" "_law_due"
def Px : Obj := pf (Mine.top 52) "_law_long" "_law_long"
def Lk : Obj := tu [.str "_law_script" 990, .str "_law_words_here" 991, .str "_law_addresses_here" 992, .str "_law_rows_here" 993, .str "_law_house" 994, .str "_law_due_here" 995, .str "_law_turn" 996, .str "_law_found" 997]
def RB : Obj := pf (Mine.top 53) "law" "law"
def Uw (P : Params) : BT := bB (t3 P) ((3, o3 P) :: (12, o12) :: (508, eT) :: (509, SJ) :: (510, LQ P) :: (511, eT) :: (512, QC) :: (513, RZ) :: (514, PX) :: (515, eT) :: (516, eF) :: (517, Rm) :: [])
def Up (P : Params) : BT := bB (Uw P) ((518, eT) :: (519, RT) :: (520, Mine.k520) :: (521, Mine.k521) :: (522, eT) :: (523, eF) :: (524, Rt) :: (525, Mine.k525) :: (526, Mine.k526) :: (527, eT) :: (528, eF) :: (529, NQ) :: [])
def Tu (P : Params) : BT := bB (Up P) ((530, eT) :: (531, RQ) :: (532, Mine.k532) :: (533, Mine.k533) :: (534, eT) :: (535, eF) :: (536, Kc) :: (537, eT) :: (538, Mf) :: (539, Mine.k539) :: (540, Mine.k540) :: (541, M5) :: [])
def Th (P : Params) : BT := bB (Tu P) ((542, Mine.k542 P) :: (543, Mine.k543) :: (544, Mine.k544) :: (545, Mine.k545) :: (546, SN) :: (547, S9) :: (548, eT) :: (549, eF) :: (550, KN) :: (551, eT) :: (552, Mm) :: (553, Mine.k553) :: [])
def Ue (P : Params) : BT := bB (Th P) ((554, Mine.k554) :: (555, eT) :: (556, eF) :: (557, Mj) :: (558, eT) :: (559, Q6) :: (560, Mine.k560) :: (561, Mine.k561) :: (562, eT) :: (563, eF) :: (564, RV) :: (565, Mine.k565) :: [])
def UT (P : Params) : BT := bB (Ue P) ((566, Mine.k566) :: (567, eT) :: (568, eF) :: (569, Nv) :: (570, Mine.k570) :: (571, Mine.k571) :: (572, eT) :: (573, eF) :: (574, QH) :: (575, Mine.k575) :: (576, Mine.k576) :: (577, eT) :: [])
def Ve (P : Params) : BT := bB (UT P) ((578, eF) :: (579, KQ) :: (580, eT) :: (581, Mv) :: (582, Mine.k582) :: (583, Mine.k583) :: (584, eT) :: (585, eF) :: (586, R9) :: (587, Mine.k587) :: (588, Mine.k588) :: (589, eT) :: [])
def TQ (P : Params) : BT := bB (Ve P) ((590, eF) :: (591, PB) :: (592, Mine.k592) :: (593, Mine.k593) :: (594, eT) :: (595, eF) :: (596, Qc) :: (597, eT) :: (598, SX) :: (599, Mine.k599) :: (600, Mine.k600) :: (601, eT) :: [])
def Va (P : Params) : BT := bB (TQ P) ((602, eF) :: (603, Pu) :: (604, Mine.k604) :: (605, Mine.k605) :: (606, eT) :: (607, eF) :: (608, Pq) :: (609, eT) :: (610, Lh) :: (611, Mine.k611) :: (612, Mine.k612) :: (613, eT) :: [])
def Us (P : Params) : BT := bB (Va P) ((614, eF) :: (615, RX) :: (616, Mine.k616) :: (617, Mine.k617) :: (618, eT) :: (619, eF) :: (620, Ql) :: (621, Mine.k621) :: (622, Mine.k622) :: (623, eT) :: (624, eF) :: (625, N5) :: [])
def Q5 (P : Params) : BT := bB (Us P) ((626, Mine.k626) :: (627, Mine.k627) :: (628, eT) :: (629, eF) :: (630, Px) :: (631, Mine.k631) :: (632, Mine.k632) :: (633, eT) :: (634, eF) :: (635, Lk) :: (636, eT) :: (637, RB) :: [])
def t4 (P : Params) : BT := bB (Q5 P) ((638, Mine.k638) :: (639, Mine.k639) :: [])
def L3 (w : World) (os : OsState) : Option (Flow × SharedT × Code × Pos) := segRunT treeTable pw_drawhouse_k36_knots w 11 (some (Value.ref 6)) 1 784 ⟨t3 w.params, nat_lit 508, { }, Array.mk [], { }, nat_lit 820, os⟩ (piecesOf (sl 36 18) env cE { line := 216, col := 0, endLine := 216, endCol := 8 } fr)
def R3 (w : World) (os : OsState) : Option (Flow × SharedT × Code × Pos) := some (.next, ⟨t4 w.params, nat_lit 640, { }, Array.mk [], { }, nat_lit 1001, os⟩, cE, { line := 388, col := 0, endLine := 401, endCol := 121 })
theorem rL3 : L3 = L3 := rfl
name_quick L3 for Hd.L3 by Hd.rL3
theorem rR3 : R3 = R3 := rfl
name_quick R3 for Hd.R3 by Hd.rR3
theorem q3 : PySem.W.Fast.L3 = PySem.W.Fast.R3 := by kernel_rfl
theorem e3 : L3 = R3 := PySem.W.Fast.L3_eq.trans (q3.trans PySem.W.Fast.R3_eq.symm)
def hF0 (P : Params) (r : List Obj) : List Obj := (boot_o_0 P) :: (boot_o_1 P) :: (boot_o_2 P) :: (o3 P) :: (boot_o_4 P) :: (boot_o_5 P) :: (boot_o_6 P) :: (boot_o_7 P) :: (boot_o_8 P) :: (boot_o_9 P) :: (boot_o_10 P) :: eT :: o12 :: o13 :: o14 :: eT :: r
def UG (P : Params) (r : List Obj) : List Obj := eF :: o17 :: eT :: o19 :: Mine.k20 :: Mine.k21 :: o22 :: o23 :: (o24 P) :: eT :: eF :: o27 :: o28 :: eT :: (Mine.k30 P) :: Mine.k31 :: r
def Vk (P : Params) (r : List Obj) : List Obj := Mine.k32 :: o33 :: o34 :: o35 :: o36 :: (o37 P) :: eT :: o39 :: o40 :: o41 :: eT :: eF :: o44 :: eT :: o46 :: Mine.k47 :: r
def Ua (P : Params) (r : List Obj) : List Obj := Mine.k48 :: o49 :: (Mine.k50 P) :: Mine.k51 :: o52 :: o53 :: o54 :: o55 :: (o56 P) :: eT :: o58 :: o59 :: o60 :: eT :: eF :: o63 :: r
def Tj (P : Params) (r : List Obj) : List Obj := eT :: o65 :: Mine.k66 :: Mine.k67 :: o68 :: (Mine.k69 P) :: Mine.k70 :: o71 :: o72 :: o73 :: o74 :: (o75 P) :: eT :: o77 :: o78 :: o79 :: r
def Uq (P : Params) (r : List Obj) : List Obj := eT :: eF :: o82 :: eT :: o84 :: Mine.k85 :: Mine.k86 :: o87 :: (Mine.k88 P) :: Mine.k89 :: o90 :: o91 :: o92 :: o93 :: (o94 P) :: eT :: r
def Uh (P : Params) (r : List Obj) : List Obj := o96 :: o97 :: o98 :: eT :: eF :: Mh :: eT :: RM :: Mine.k104 :: Mine.k105 :: Mu :: (Mine.k107 P) :: Mine.k108 :: QB :: Sw :: o111 :: r
def Oo (P : Params) (r : List Obj) : List Obj := Qa :: (RC P) :: eT :: Qu :: Qq :: SQ :: eT :: eF :: JK :: eT :: KH :: Mine.k123 :: Mine.k124 :: QM :: (Mine.k126 P) :: Mine.k127 :: r
def Rq (P : Params) (r : List Obj) : List Obj := O7 :: Kd :: eT :: eF :: RK :: Mine.k133 :: Mine.k134 :: eT :: eF :: NP :: eT :: Ln :: Mine.k140 :: Mine.k141 :: eT :: QW :: r
def QX (P : Params) (r : List Obj) : List Obj := (Rr P) :: eT :: Ng :: Ss :: Kh :: eT :: eF :: Sy :: eT :: Qw :: Mine.k154 :: Mine.k155 :: eT :: eF :: Nj :: eT :: r
def P0 (P : Params) (r : List Obj) : List Obj := Ms :: Mine.k161 :: Mine.k162 :: eT :: eF :: Rw :: eT :: Mr :: Mine.k168 :: Mine.k169 :: eT :: (Mine.k171 P) :: Mine.k172 :: Mine.k173 :: Mine.k174 :: Ro :: r
def Qp (P : Params) (r : List Obj) : List Obj := Kz :: Ml :: QG :: (S8 P) :: eT :: J6 :: Su :: Kp :: eT :: eF :: Qk :: eT :: Ly :: Mine.k189 :: Mine.k190 :: eT :: r
def Pb (P : Params) (r : List Obj) : List Obj := eF :: J5 :: eT :: Ol :: Mine.k196 :: Mine.k197 :: eT :: eF :: o200 :: eT :: MK :: Mine.k203 :: Mine.k204 :: NZ :: (Mine.k206 P) :: Mine.k207 :: r
def Km (P : Params) (r : List Obj) : List Obj := Ke :: Ka :: Mg :: Qi :: (Ov P) :: eT :: Nb :: O1 :: Np :: eT :: eF :: N8 :: eT :: Kw :: Mine.k222 :: Mine.k223 :: r
def RN (P : Params) (r : List Obj) : List Obj := eT :: eF :: Sx :: eT :: LC :: Mine.k229 :: Mine.k230 :: eT :: eF :: Sd :: eT :: KZ :: Mine.k236 :: Mine.k237 :: Nx :: (Mine.k239 P) :: r
def Rh (P : Params) (r : List Obj) : List Obj := Mine.k240 :: Mw :: RP :: Qt :: La :: (QT P) :: eT :: MP :: Tc :: K4 :: eT :: eF :: Pr :: eT :: O5 :: Mine.k255 :: r
def Pn (P : Params) (r : List Obj) : List Obj := Mine.k256 :: eT :: eF :: OD :: eT :: RJ :: Mine.k262 :: Mine.k263 :: eT :: eF :: PN :: eT :: Qn :: Mine.k269 :: Mine.k270 :: eT :: r
def Mi (P : Params) (r : List Obj) : List Obj := eF :: JR :: eT :: JN :: Mine.k276 :: Mine.k277 :: S7 :: (Mine.k279 P) :: Mine.k280 :: J0 :: Nh :: JX :: J3 :: (M8 P) :: eT :: K3 :: r
def LK (P : Params) (r : List Obj) : List Obj := KD :: J1 :: eT :: eF :: Td :: eT :: Rn :: Mine.k295 :: Mine.k296 :: eT :: eF :: QD :: eT :: K9 :: Mine.k302 :: Mine.k303 :: r
def Ko (P : Params) (r : List Obj) : List Obj := eT :: eF :: Lw :: eT :: Rj :: Mine.k309 :: Mine.k310 :: eT :: eF :: KY :: eT :: Rv :: Mine.k316 :: Mine.k317 :: NB :: (Mine.k319 P) :: r
def Q0 (P : Params) (r : List Obj) : List Obj := Mine.k320 :: O6 :: Om :: N7 :: Sh :: (Ku P) :: eT :: Od :: Ru :: Qx :: eT :: eF :: Ox :: eT :: Le :: Mine.k335 :: r
def Ra (P : Params) (r : List Obj) : List Obj := Mine.k336 :: eT :: eF :: Ot :: eT :: PK :: Mine.k342 :: Mine.k343 :: eT :: eF :: Ks :: eT :: Oc :: Mine.k349 :: Mine.k350 :: eT :: r
def Lq (P : Params) (r : List Obj) : List Obj := eF :: Lj :: eT :: Qd :: Mine.k356 :: Mine.k357 :: Nk :: (Mine.k359 P) :: Mine.k360 :: O3 :: Qy :: Ou :: JT :: (Qz P) :: eT :: J8 :: r
def K7 (P : Params) (r : List Obj) : List Obj := Lg :: QZ :: eT :: eF :: Nu :: eT :: M6 :: Mine.k375 :: Mine.k376 :: eT :: eF :: Ni :: eT :: Nz :: Mine.k382 :: Mine.k383 :: r
def Oz (P : Params) (r : List Obj) : List Obj := Qj :: (Mine.k385 P) :: Mine.k386 :: Kl :: QL :: eT :: eF :: Q8 :: eT :: OJ :: Mine.k394 :: Mine.k395 :: eT :: eF :: PQ :: Mine.k399 :: r
def Kf (P : Params) (r : List Obj) : List Obj := Mine.k400 :: eT :: eF :: O9 :: eT :: K5 :: Mine.k406 :: Mine.k407 :: eT :: eF :: Oh :: eT :: Li :: Mine.k413 :: Mine.k414 :: eT :: r
def QQ (P : Params) (r : List Obj) : List Obj := eF :: KR :: Mine.k418 :: Mine.k419 :: eT :: eF :: Sg :: eT :: M3 :: Mine.k425 :: Mine.k426 :: eT :: eF :: S6 :: Mine.k430 :: Mine.k431 :: r
def Qh (P : Params) (r : List Obj) : List Obj := eT :: eF :: Rg :: Mine.k435 :: Mine.k436 :: eT :: eF :: Qe :: eT :: M4 :: Mine.k442 :: Mine.k443 :: eT :: eF :: Pj :: Mine.k447 :: r
def Ky (P : Params) (r : List Obj) : List Obj := Mine.k448 :: eT :: eF :: O4 :: Mine.k452 :: Mine.k453 :: eT :: MF :: (Nm P) :: eT :: JV :: NK :: JP :: eT :: eF :: Py :: r
def Lr (P : Params) (r : List Obj) : List Obj := eT :: JW :: Mine.k466 :: Mine.k467 :: eT :: eF :: KC :: Mine.k471 :: Mine.k472 :: eT :: eF :: QK :: eT :: Nf :: Mine.k478 :: Mine.k479 :: r
def RW (P : Params) (r : List Obj) : List Obj := eT :: eF :: Qo :: eT :: Q9 :: Mine.k485 :: Mine.k486 :: eT :: eF :: S5 :: eT :: Ry :: Mine.k492 :: Mine.k493 :: eT :: eF :: r
def Oa (P : Params) (r : List Obj) : List Obj := Qf :: eT :: MN :: Mine.k499 :: Mine.k500 :: Mt :: (Mine.k502 P) :: Mine.k503 :: Mine.k504 :: Mine.k505 :: J9 :: JZ :: eT :: SJ :: (LQ P) :: eT :: r
def Ma (P : Params) (r : List Obj) : List Obj := QC :: RZ :: PX :: eT :: eF :: Rm :: eT :: RT :: Mine.k520 :: Mine.k521 :: eT :: eF :: Rt :: Mine.k525 :: Mine.k526 :: eT :: r
def Mx (P : Params) (r : List Obj) : List Obj := eF :: NQ :: eT :: RQ :: Mine.k532 :: Mine.k533 :: eT :: eF :: Kc :: eT :: Mf :: Mine.k539 :: Mine.k540 :: M5 :: (Mine.k542 P) :: Mine.k543 :: r
def Mp (P : Params) (r : List Obj) : List Obj := Mine.k544 :: Mine.k545 :: SN :: S9 :: eT :: eF :: KN :: eT :: Mm :: Mine.k553 :: Mine.k554 :: eT :: eF :: Mj :: eT :: Q6 :: r
def K1 (P : Params) (r : List Obj) : List Obj := Mine.k560 :: Mine.k561 :: eT :: eF :: RV :: Mine.k565 :: Mine.k566 :: eT :: eF :: Nv :: Mine.k570 :: Mine.k571 :: eT :: eF :: QH :: Mine.k575 :: r
def O8 (P : Params) (r : List Obj) : List Obj := Mine.k576 :: eT :: eF :: KQ :: eT :: Mv :: Mine.k582 :: Mine.k583 :: eT :: eF :: R9 :: Mine.k587 :: Mine.k588 :: eT :: eF :: PB :: r
def O2 (P : Params) (r : List Obj) : List Obj := Mine.k592 :: Mine.k593 :: eT :: eF :: Qc :: eT :: SX :: Mine.k599 :: Mine.k600 :: eT :: eF :: Pu :: Mine.k604 :: Mine.k605 :: eT :: eF :: r
def Oq (P : Params) (r : List Obj) : List Obj := Pq :: eT :: Lh :: Mine.k611 :: Mine.k612 :: eT :: eF :: RX :: Mine.k616 :: Mine.k617 :: eT :: eF :: Ql :: Mine.k621 :: Mine.k622 :: eT :: r
def JL (P : Params) (r : List Obj) : List Obj := eF :: N5 :: Mine.k626 :: Mine.k627 :: eT :: eF :: Px :: Mine.k631 :: Mine.k632 :: eT :: eF :: Lk :: eT :: RB :: Mine.k638 :: Mine.k639 :: r
def hF (P : Params) : Heap := ⟨Array.mk (hF0 P (UG P (Vk P (Ua P (Tj P (Uq P (Uh P (Oo P (Rq P (QX P (P0 P (Qp P (Pb P (Km P (RN P (Rh P (Pn P (Mi P (LK P (Ko P (Q0 P (Ra P (Lq P (K7 P (Oz P (Kf P (QQ P (Qh P (Ky P (Lr P (RW P (Oa P (Ma P (Mx P (Mp P (K1 P (O8 P (O2 P (Oq P (JL P ([]))))))))))))))))))))))))))))))))))))))))), { }⟩
def Lf (w : World) (os : OsState) : Option Shared := topRun treeTable pw_drawhouse_k36_knots w 11 (some (Value.ref 6)) 2 (SharedT.abs ⟨t4 w.params, nat_lit 640, { }, Array.mk [], { }, nat_lit 1001, os⟩) ⟨doneF .next, cE, { line := 388, col := 0, endLine := 401, endCol := 121 }, fr⟩
def Rf (w : World) (os : OsState) : Option Shared := some ⟨hF w.params, Array.mk [], { }, nat_lit 1001, os⟩
theorem rLf : Lf = Lf := rfl
name_quick Lf for Hd.Lf by Hd.rLf
theorem rRf : Rf = Rf := rfl
name_quick Rf for Hd.Rf by Hd.rRf
theorem qf : PySem.W.Fast.Lf = PySem.W.Fast.Rf := by kernel_rfl
theorem ef : Lf = Rf := PySem.W.Fast.Lf_eq.trans (qf.trans PySem.W.Fast.Rf_eq.symm)
theorem ed : (behindTheImports pw_drawhouse_k36_knots).drop 54 = [] := by kernel_rfl
theorem pd {w : World} {k m n N : Nat} {s s' r : Shared} {c : Code} {pos p' : Pos} (h : segRun treeTable pw_drawhouse_k36_knots w 11 (some (Value.ref 6)) 1 n s (piecesOf (sl k m) env c pos fr) = some (.next, s', c, p'))
  (k2 : topRun treeTable pw_drawhouse_k36_knots w 11 (some (Value.ref 6)) N s' (restOf ((behindTheImports pw_drawhouse_k36_knots).drop (k + m)) env c p' fr) = some r) : topRun treeTable pw_drawhouse_k36_knots w 11 (some (Value.ref 6)) (n + N) s (restOf ((behindTheImports pw_drawhouse_k36_knots).drop k) env c pos fr) = some r := by
 have z := piece_app h k2
 have e : sl k m ++ (behindTheImports pw_drawhouse_k36_knots).drop (k + m) = (behindTheImports pw_drawhouse_k36_knots).drop k := by
  unfold sl
  rw [<- List.drop_drop]
  exact List.take_append_drop m _
 rwa [e] at z
theorem run (w : World) (os : OsState) : topRun treeTable pw_drawhouse_k36_knots w 11 (some (Value.ref 6)) (12 + (1 + (1523 + (1581 + (1358 + (784 + (2))))))) ⟨boot_heap w.params, Array.mk [], boot_drawn, boot_toks, os⟩ (topStub pw_drawhouse_k36_knots) = some ⟨hF w.params, Array.mk [], { }, nat_lit 1001, os⟩ :=
 go_top (congrFun (congrFun ep w) os) (piece_block (congrFun (congrFun eb w) os)
  (pd (k := 0) (m := 12) (segRun_of (congrFun (congrFun e0 w) os))
  (pd (k := 12) (m := 5) (segRun_of (congrFun (congrFun e1 w) os))
  (pd (k := 17) (m := 19) (segRun_of (congrFun (congrFun e2 w) os))
  (pd (k := 36) (m := 18) (segRun_of (congrFun (congrFun e3 w) os))
  (by rw [show 36 + 18 = 54 from rfl, ed]; exact piece_nil (congrFun (congrFun ef w) os)))))))
def qv : Program := { pw_drawhouse_k36_knots with main := { pw_drawhouse_k36_knots.main with body := (0 :: 2 :: 3 :: 4 :: 5 :: 6 :: 7 :: 9 :: 10 :: 12 :: 13 :: 14 :: 15 :: 16 :: 17 :: 18 :: 20 :: 21 :: 22 :: 23 :: 25 :: 26 :: 27 :: 28 :: 30 :: 31 :: 32 :: 33 :: 34 :: 36 :: 38 :: 39 :: 40 :: 41 :: 42 :: 43 :: 44 :: 45 :: 46 :: 47 :: 48 :: 49 :: 50 :: 51 :: 52 :: 53 :: []).filterMap fun i => pw_drawhouse_k36_knots.main.body[i]? } }
def loose : List Str := []
def lv : List (Str × WData) := []
def xt (s : Shared) : Bool := xlAt qv lv s && recOk (RowW.records (OpenRow.toRowW (OpenLaw.row rw_drawhouse_k36_knots))) s
def as : List Addr := nat_lit 2 :: nat_lit 3 :: nat_lit 20 :: nat_lit 21 :: nat_lit 30 :: nat_lit 31 :: nat_lit 32 :: nat_lit 47 :: nat_lit 48 :: nat_lit 50 :: nat_lit 51 :: nat_lit 66 :: nat_lit 67 :: nat_lit 69 :: nat_lit 70 :: nat_lit 85 :: nat_lit 86 :: nat_lit 88 :: nat_lit 89 :: nat_lit 104 :: nat_lit 105 :: nat_lit 107 :: nat_lit 108 :: nat_lit 123 :: nat_lit 124 :: nat_lit 126 :: nat_lit 127 :: nat_lit 133 :: nat_lit 134 :: nat_lit 140 :: nat_lit 141 :: nat_lit 154 :: nat_lit 155 :: nat_lit 161 :: nat_lit 162 :: nat_lit 168 :: nat_lit 169 :: nat_lit 171 :: nat_lit 172 :: nat_lit 173 :: nat_lit 174 :: nat_lit 189 :: nat_lit 190 :: nat_lit 196 :: nat_lit 197 :: nat_lit 203 :: nat_lit 204 :: nat_lit 206 :: nat_lit 207 :: nat_lit 222 :: nat_lit 223 :: nat_lit 229 :: nat_lit 230 :: nat_lit 236 :: nat_lit 237 :: nat_lit 239 :: nat_lit 240 :: nat_lit 255 :: nat_lit 256 :: nat_lit 262 :: nat_lit 263 :: nat_lit 269 :: nat_lit 270 :: nat_lit 276 :: nat_lit 277 :: nat_lit 279 :: nat_lit 280 :: nat_lit 295 :: nat_lit 296 :: nat_lit 302 :: nat_lit 303 :: nat_lit 309 :: nat_lit 310 :: nat_lit 316 :: nat_lit 317 :: nat_lit 319 :: nat_lit 320 :: nat_lit 335 :: nat_lit 336 :: nat_lit 342 :: nat_lit 343 :: nat_lit 349 :: nat_lit 350 :: nat_lit 356 :: nat_lit 357 :: nat_lit 359 :: nat_lit 360 :: nat_lit 375 :: nat_lit 376 :: nat_lit 382 :: nat_lit 383 :: nat_lit 385 :: nat_lit 386 :: nat_lit 394 :: nat_lit 395 :: nat_lit 399 :: nat_lit 400 :: nat_lit 406 :: nat_lit 407 :: nat_lit 413 :: nat_lit 414 :: nat_lit 418 :: nat_lit 419 :: nat_lit 425 :: nat_lit 426 :: nat_lit 430 :: nat_lit 431 :: nat_lit 435 :: nat_lit 436 :: nat_lit 442 :: nat_lit 443 :: nat_lit 447 :: nat_lit 448 :: nat_lit 452 :: nat_lit 453 :: nat_lit 466 :: nat_lit 467 :: nat_lit 471 :: nat_lit 472 :: nat_lit 478 :: nat_lit 479 :: nat_lit 485 :: nat_lit 486 :: nat_lit 492 :: nat_lit 493 :: nat_lit 499 :: nat_lit 500 :: nat_lit 502 :: nat_lit 503 :: nat_lit 504 :: nat_lit 505 :: nat_lit 520 :: nat_lit 521 :: nat_lit 525 :: nat_lit 526 :: nat_lit 532 :: nat_lit 533 :: nat_lit 539 :: nat_lit 540 :: nat_lit 542 :: nat_lit 543 :: nat_lit 544 :: nat_lit 545 :: nat_lit 553 :: nat_lit 554 :: nat_lit 560 :: nat_lit 561 :: nat_lit 565 :: nat_lit 566 :: nat_lit 570 :: nat_lit 571 :: nat_lit 575 :: nat_lit 576 :: nat_lit 582 :: nat_lit 583 :: nat_lit 587 :: nat_lit 588 :: nat_lit 592 :: nat_lit 593 :: nat_lit 599 :: nat_lit 600 :: nat_lit 604 :: nat_lit 605 :: nat_lit 611 :: nat_lit 612 :: nat_lit 616 :: nat_lit 617 :: nat_lit 621 :: nat_lit 622 :: nat_lit 626 :: nat_lit 627 :: nat_lit 631 :: nat_lit 632 :: nat_lit 638 :: nat_lit 639 :: []
theorem ke (P : Params) : as = (Mine.myK P).map (·.1) := by kernel_rfl
def Ls (w : World) : Bool × Nat × Option Value := ((boot_heap w.params).isNs mainGlobals && (Array.mk [] : Array GenState).size == 0, (boot_heap w.params).objs.size, (boot_heap w.params).nsMap mainGlobals "__annotations__")
def Rs (w : World) : Bool × Nat × Option Value := (true, 11, some (Value.ref 6))
theorem es : Ls = Rs := by kernel_rfl
def Lk0 (w : World) (os : OsState) : Bool := staticsOk (importedModules pw_drawhouse_k36_knots.main.body) (boot_heap w.params) (hF w.params) && namesBound pw_drawhouse_k36_knots (hF w.params) && gensDone ⟨hF w.params, Array.mk [], { }, nat_lit 1001, os⟩ && laidKept (boot_heap w.params) (hF w.params)
def Rk0 (_ : World) (_ : OsState) : Bool := true
theorem rLk0 : Lk0 = Lk0 := rfl
name_quick Lk0 for Hd.Lk0 by Hd.rLk0
theorem qk0 : PySem.W.Fast.Lk0 = Rk0 := by kernel_rfl
theorem ek0 : Lk0 = Rk0 := PySem.W.Fast.Lk0_eq.trans qk0
def Lk1 (w : World) (os : OsState) := (openSeen qv loose (importedModules pw_drawhouse_k36_knots.main.body) xt true ⟨hF w.params, Array.mk [], { }, nat_lit 1001, os⟩).1
def Rk1 (_ : World) (_ : OsState) := (openGood qv loose).1
theorem rLk1 : Lk1 = Lk1 := rfl
name_quick Lk1 for Hd.Lk1 by Hd.rLk1
theorem rRk1 : Rk1 = Rk1 := rfl
name_quick Rk1 for Hd.Rk1 by Hd.rRk1
theorem qk1 : PySem.W.Fast.Lk1 = PySem.W.Fast.Rk1 := by kernel_rfl
theorem ek1 : Lk1 = Rk1 := PySem.W.Fast.Lk1_eq.trans (qk1.trans PySem.W.Fast.Rk1_eq.symm)
def Lk2 (w : World) (os : OsState) := (openSeen qv loose (importedModules pw_drawhouse_k36_knots.main.body) xt true ⟨hF w.params, Array.mk [], { }, nat_lit 1001, os⟩).2.1
def Rk2 (_ : World) (_ : OsState) := (openGood qv loose).2.1
theorem rLk2 : Lk2 = Lk2 := rfl
name_quick Lk2 for Hd.Lk2 by Hd.rLk2
theorem qk2 : PySem.W.Fast.Lk2 = Rk2 := by kernel_rfl
theorem ek2 : Lk2 = Rk2 := PySem.W.Fast.Lk2_eq.trans qk2
def Lk3 (w : World) (os : OsState) := (openSeen qv loose (importedModules pw_drawhouse_k36_knots.main.body) xt true ⟨hF w.params, Array.mk [], { }, nat_lit 1001, os⟩).2.2.1
def Rk3 (_ : World) (_ : OsState) := (openGood qv loose).2.2.1
theorem rLk3 : Lk3 = Lk3 := rfl
name_quick Lk3 for Hd.Lk3 by Hd.rLk3
theorem qk3 : PySem.W.Fast.Lk3 = Rk3 := by kernel_rfl
theorem ek3 : Lk3 = Rk3 := PySem.W.Fast.Lk3_eq.trans qk3
def Lk4 (w : World) (os : OsState) := (openSeen qv loose (importedModules pw_drawhouse_k36_knots.main.body) xt true ⟨hF w.params, Array.mk [], { }, nat_lit 1001, os⟩).2.2.2.1
def Rk4 (_ : World) (_ : OsState) := (openGood qv loose).2.2.2.1
theorem rLk4 : Lk4 = Lk4 := rfl
name_quick Lk4 for Hd.Lk4 by Hd.rLk4
theorem qk4 : PySem.W.Fast.Lk4 = Rk4 := by kernel_rfl
theorem ek4 : Lk4 = Rk4 := PySem.W.Fast.Lk4_eq.trans qk4
def Lk5 (w : World) (os : OsState) := (openSeen qv loose (importedModules pw_drawhouse_k36_knots.main.body) xt true ⟨hF w.params, Array.mk [], { }, nat_lit 1001, os⟩).2.2.2.2.1
def Rk5 (_ : World) (_ : OsState) := (openGood qv loose).2.2.2.2.1
theorem rLk5 : Lk5 = Lk5 := rfl
name_quick Lk5 for Hd.Lk5 by Hd.rLk5
theorem rRk5 : Rk5 = Rk5 := rfl
name_quick Rk5 for Hd.Rk5 by Hd.rRk5
theorem qk5 : PySem.W.Fast.Lk5 = PySem.W.Fast.Rk5 := by kernel_rfl
theorem ek5 : Lk5 = Rk5 := PySem.W.Fast.Lk5_eq.trans (qk5.trans PySem.W.Fast.Rk5_eq.symm)
def Lk6 (w : World) (os : OsState) := (openSeen qv loose (importedModules pw_drawhouse_k36_knots.main.body) xt true ⟨hF w.params, Array.mk [], { }, nat_lit 1001, os⟩).2.2.2.2.2.1
def Rk6 (_ : World) (_ : OsState) := (openGood qv loose).2.2.2.2.2.1
theorem rLk6 : Lk6 = Lk6 := rfl
name_quick Lk6 for Hd.Lk6 by Hd.rLk6
theorem rRk6 : Rk6 = Rk6 := rfl
name_quick Rk6 for Hd.Rk6 by Hd.rRk6
theorem qk6 : PySem.W.Fast.Lk6 = PySem.W.Fast.Rk6 := by kernel_rfl
theorem ek6 : Lk6 = Rk6 := PySem.W.Fast.Lk6_eq.trans (qk6.trans PySem.W.Fast.Rk6_eq.symm)
def Lk7 (w : World) (os : OsState) := (openSeen qv loose (importedModules pw_drawhouse_k36_knots.main.body) xt true ⟨hF w.params, Array.mk [], { }, nat_lit 1001, os⟩).2.2.2.2.2.2.1
def Rk7 (_ : World) (_ : OsState) := (openGood qv loose).2.2.2.2.2.2.1
theorem rLk7 : Lk7 = Lk7 := rfl
name_quick Lk7 for Hd.Lk7 by Hd.rLk7
theorem rRk7 : Rk7 = Rk7 := rfl
name_quick Rk7 for Hd.Rk7 by Hd.rRk7
theorem qk7 : PySem.W.Fast.Lk7 = PySem.W.Fast.Rk7 := by kernel_rfl
theorem ek7 : Lk7 = Rk7 := PySem.W.Fast.Lk7_eq.trans (qk7.trans PySem.W.Fast.Rk7_eq.symm)
def Lk8 (w : World) (os : OsState) := (openSeen qv loose (importedModules pw_drawhouse_k36_knots.main.body) xt true ⟨hF w.params, Array.mk [], { }, nat_lit 1001, os⟩).2.2.2.2.2.2.2.1
def Rk8 (_ : World) (_ : OsState) := (openGood qv loose).2.2.2.2.2.2.2.1
theorem rLk8 : Lk8 = Lk8 := rfl
name_quick Lk8 for Hd.Lk8 by Hd.rLk8
theorem rRk8 : Rk8 = Rk8 := rfl
name_quick Rk8 for Hd.Rk8 by Hd.rRk8
theorem qk8 : PySem.W.Fast.Lk8 = PySem.W.Fast.Rk8 := by kernel_rfl
theorem ek8 : Lk8 = Rk8 := PySem.W.Fast.Lk8_eq.trans (qk8.trans PySem.W.Fast.Rk8_eq.symm)
def Lk9 (w : World) (os : OsState) := (openSeen qv loose (importedModules pw_drawhouse_k36_knots.main.body) xt true ⟨hF w.params, Array.mk [], { }, nat_lit 1001, os⟩).2.2.2.2.2.2.2.2
def Rk9 (_ : World) (_ : OsState) := (openGood qv loose).2.2.2.2.2.2.2.2
theorem rLk9 : Lk9 = Lk9 := rfl
name_quick Lk9 for Hd.Lk9 by Hd.rLk9
theorem rRk9 : Rk9 = Rk9 := rfl
name_quick Rk9 for Hd.Rk9 by Hd.rRk9
theorem qk9 : PySem.W.Fast.Lk9 = PySem.W.Fast.Rk9 := by kernel_rfl
theorem ek9 : Lk9 = Rk9 := PySem.W.Fast.Lk9_eq.trans (qk9.trans PySem.W.Fast.Rk9_eq.symm)
def U9 (w : World) (_ : OsState) : List (Option Obj) := as.map (hF w.params).get?
def Uy (w : World) (_ : OsState) : List (Option Obj) := (Mine.myK w.params).map fun p => some p.2
theorem Vj : U9 = Uy := by kernel_rfl
theorem c {α : Type} {f g : World -> OsState -> α} (h : f = g) {w : World} {os : OsState} : f w os = g w os := h ▸ rfl
theorem ek (w : World) : (fun os => ((staticsOk (importedModules pw_drawhouse_k36_knots.main.body) (boot_heap w.params) (hF w.params) && namesBound pw_drawhouse_k36_knots (hF w.params) && gensDone ⟨hF w.params, Array.mk [], { }, nat_lit 1001, os⟩ && laidKept (boot_heap w.params) (hF w.params)), openSeen qv loose (importedModules pw_drawhouse_k36_knots.main.body) xt true ⟨hF w.params, Array.mk [], { }, nat_lit 1001, os⟩, Hook.obs (kHook Mine.myK as ke) ⟨hF w.params, Array.mk [], { }, nat_lit 1001, os⟩)) = fun _ => (true, openGood qv loose, Hook.val (kHook Mine.myK as ke) w) :=
 funext fun os => Prod.ext (congrFun (congrFun ek0 w) os) (Prod.ext (Prod.ext (c ek1) (Prod.ext (c ek2) (Prod.ext (c ek3) (Prod.ext (c ek4) (Prod.ext (c ek5) (Prod.ext (c ek6) (Prod.ext (c ek7) (Prod.ext (c ek8) (c ek9))))))))) (congrFun (congrFun Vj w) os))
theorem op : opening pw_drawhouse_k36_knots = plainProg pw_drawhouse_k36_knots.main.scope.names := by kernel_rfl
theorem fn (s : Shared) : fenceModules? pw_drawhouse_k36_knots s = some s := by kernel_rfl
theorem left : LeftO pw_drawhouse_k36_knots qv loose xt (Hook.obs (kHook Mine.myK as ke)) (Hook.val (kHook Mine.myK as ke)) 10610 true := by
 refine LeftO.of_pieces (boot_open op rfl fn) (congrFun es) run rfl ek
end
end Hd
open PySem PySem.W PyProof.Rows
set_option maxRecDepth 100000 in
set_option maxHeartbeats 0 in
theorem PySem.Challenge.cw_drawhouse_k36_knots_holds : PySem.Challenge.rw_drawhouse_k36_knots.Holds := by
 w_on; o_law
 refine holds_open (r := OpenLaw.row rw_drawhouse_k36_knots) (q := Hd.qv) (loose := Hd.loose) (Xt := Hd.xt) (XP := XL Hd.qv Hd.lv) (Yf := Hook.obs (kHook Mine.myK Hd.as Hd.ke)) (Ya := Hook.val (kHook Mine.myK Hd.as Hd.ke))
  (YP := Hook.says (kHook Mine.myK Hd.as Hd.ke)) Hd.left (Hook.of (kHook Mine.myK Hd.as Hd.ke)) (Hook.keeps (kHook Mine.myK Hd.as Hd.ke)) (fun s e => xl_of s (Bool.and_eq_true_iff.mp e).1) XL.keeps Z3 Z3 Z3
  (fun s e => recFacts_of (Bool.and_eq_true_iff.mp e).2) rfl (by assumption) Z4 ⟨rfl, rfl, rfl, rfl, rfl, Z4⟩ ?hw ?hc
 (case hw => w_witness2)
 k_fill
 refine Mine.walk (l := rw_drawhouse_k36_knots) rfl rfl (fun w h Y => PySem.W.kIn_of Y) ?F
 case F =>
  intro w mg fa h KX G hmg
  refine' Mine.Jl KX G hmg (Mine.fi ?_ ?_ ?_ ?_) (Mine.fi ?_ ?_ ?_ ?_) (Mine.fi ?_ ?_ ?_ ?_) (Mine.fi ?_ ?_ ?_ ?_) (Mine.fi ?_ ?_ ?_ ?_) (Mine.fi ?_ ?_ ?_ ?_) (Mine.fi ?_ ?_ ?_ ?_) (Mine.fi ?_ ?_ ?_ ?_) (Mine.fi ?_ ?_ ?_ ?_) (Mine.fi ?_ ?_ ?_ ?_) (Mine.fi ?_ ?_ ?_ ?_) (Mine.fi ?_ ?_ ?_ ?_) (Mine.fi ?_ ?_ ?_ ?_) (Mine.fi ?_ ?_ ?_ ?_) (Mine.fi ?_ ?_ ?_ ?_) (Mine.fi ?_ ?_ ?_ ?_) (Mine.fi ?_ ?_ ?_ ?_) (Mine.fi ?_ ?_ ?_ ?_) (Mine.fi ?_ ?_ ?_ ?_) (Mine.fi ?_ ?_ ?_ ?_) (Mine.fi ?_ ?_ ?_ ?_) (Mine.fi ?_ ?_ ?_ ?_) (Mine.fi ?_ ?_ ?_ ?_) (Mine.fi ?_ ?_ ?_ ?_) (Mine.fi ?_ ?_ ?_ ?_) (Mine.fi ?_ ?_ ?_ ?_) (Mine.fi ?_ ?_ ?_ ?_) (Mine.fi ?_ ?_ ?_ ?_) (Mine.fi ?_ ?_ ?_ ?_) ⟨?_, ?_, ?_, ?_, ?_, ?_, ?_, ?_, ?_, ?_, ?_⟩ ⟨?_, ?_, ?_, ?_, ?_, ?_, ?_, ?_, ?_, ?_, ?_⟩ ⟨?_, ?_, ?_, ?_, ?_, ?_, ?_, ?_, ?_, ?_, ?_⟩ ⟨?_, ?_, ?_, ?_, ?_, ?_, ?_, ?_, ?_, ?_, ?_⟩ ⟨?_, ?_, ?_, ?_, ?_, ?_, ?_, ?_, ?_, ?_, ?_⟩ ⟨?_, ?_, ?_, ?_, ?_, ?_, ?_, ?_, ?_, ?_, ?_⟩ ⟨?_, ?_, ?_, ?_, ?_, ?_, ?_, ?_, ?_, ?_, ?_⟩ ⟨?_, ?_, ?_, ?_, ?_, ?_, ?_, ?_, ?_, ?_, ?_⟩ ⟨?_, ?_, ?_, ?_, ?_, ?_, ?_, ?_, ?_, ?_, ?_⟩ ?_ ?_ ?_ ?_ ?_ ?_ ?_ ?_ ?_ ?_ ?_ ?_ ?_ ?_ ?_ ?_ ?_ ?_ ?_ ?_ ?_ ?_ ?_ ?_ ?_ ?_ ?_ ?_ ?_ ?_ ?_ ?_ ?_ ?_ ?_ ?_ ?_ ?_ ?_ ?_ ?_ ?_ ?_ ?_ ?_ ?_ ?_ ?_ ?_ ?_ ?_ ?_ ?_ ?_ ?_ ?_ ?_ ?_ ?_ ?_ ?_ ?_ ?_ ?_ ?_ ?_ ?_ ?_ ?_ ?_ ?_ ?_ ?_ ?_ ?_ (Mine.mi ?_ ?_ ?_ ?_) ?_ ?_ ?_ ?_ (Mine.mi ?_ ?_ ?_ ?_) ?_ (Mine.mi ?_ ?_ ?_ ?_) ?_ (Mine.mi ?_ ?_ ?_ ?_) ?_ (Mine.mi ?_ ?_ ?_ ?_) ?_ (Mine.mi ?_ ?_ ?_ ?_) ?_ (Mine.mi ?_ ?_ ?_ ?_) ?_ (Mine.mi ?_ ?_ ?_ ?_) ?_ (Mine.mi ?_ ?_ ?_ ?_) ?_ (Mine.mi ?_ ?_ ?_ ?_) ?_ (Mine.mi ?_ ?_ ?_ ?_) ?_ (Mine.mi ?_ ?_ ?_ ?_) ?_ (Mine.mi ?_ ?_ ?_ ?_) ?_ (Mine.mi ?_ ?_ ?_ ?_) ?_ (Mine.mi ?_ ?_ ?_ ?_) ?_ (Mine.mi ?_ ?_ ?_ ?_) ?_ (Mine.mi ?_ ?_ ?_ ?_) ?_ (Mine.mi ?_ ?_ ?_ ?_) ?_ (Mine.mi ?_ ?_ ?_ ?_) ?_ (Mine.mi ?_ ?_ ?_ ?_) ?_ (Mine.mi ?_ ?_ ?_ ?_) ?_ ?_ ?_ ?_ ?_ ?_ ?_ ?_ ?_ ?_ ?_ (Mine.mi ?_ ?_ ?_ ?_) ?_ ?_ ?_ ?_ ?uSK ?uNI ?_ ?_ ?_ ?_ ?_ ?_ ?_ ?_ ?_ ?_ ?_ ?_ ?_ ?_ ?_ ?_ ?_ ?_ ?_ ?_
  any_goals k_is
  (case uSK => rfl); (case uNI => rfl)
#print axioms PySem.Challenge.cw_drawhouse_k36_knots_holds
