import PyProof.Rows.All
import Wide.All
import OpenK.AllK
import Wide.FinOn
import Lean
import PyProof.EqAt
import PyProof.EqKinds
import PyProof.TupleCall
import KE.KIntText
import PyProof.ZipIter
import PyProof.EnumFor
import PyProof.EnumMake
import PyProof.ExcClass3
import PyProof.ExcFactsAll.ValueError
import PyProof.ExcArgs
import PyProof.InstStoreFacts
import PyProof.ExcBaseAll.ValueError
import PyProof.Rows.FStr
import KE.KRevSl
import KE.KDictSum
import PyProof.NeKinds
import PyProof.MinMaxWalk
import KE.KDictOf
import KE.KItemsList
import PySem.Challenge.RW_drawhouse_k41_rows_of_one_part
set_option Elab.async false
set_option linter.all false
set_option maxRecDepth 100000
abbrev OP := List (PySem.Addr × PySem.Obj)
abbrev EV := PySem.Value -> PySem.Shared -> Prop
abbrev MG := PySem.Str -> Option PySem.Value
open PySem.W (instObj methodObj Frag lookIn plainGet hasDictIn findIn handedIn plainGet_of isFn plainOver takerIn makesIn typeIn emptyDict keepIn specialIn takesIn mroIn kitOne kia_one kitx_list kitx_dict callWith_K methodCall_KW fnOf codeIn OpenLaw WalkO kitMeta nsIn mg_of mg_none_of)
open Nat (lt_of_lt_of_le lt_irrefl ne_of_lt le_trans le_of_lt ne_of_gt le_refl zero_le lt_succ_self lt_trans lt_or_ge min_eq_left not_lt_zero sub_self zero_lt_one)
open List (mem_filter mem_range mem_cons_self mem_cons_of_mem mem_cons mem_append mem_append_left getElem?_set_self getElem?_set_ne mem_append_right length_cons map_cons length_map append_nil nodup_cons length_take getElem?_append_right getElem?_append_left getElem?_map mem_of_getElem? length_append size_toArray length_drop length_set any_cons length_singleton map_nil find?_cons cons_append mem_map append_assoc lookup_cons all_eq_true mem_singleton set_set length_range range_succ map_append ext_getElem getElem?_eq_getElem length_filter_le take_length not_mem_nil map_map getElem_of_mem map_take getElem_mem any_eq_true take_succ lookup_cons_self)
open Array (length_toList toList_extract)
open Bool (and_eq_true)
open Option (isSome_map)
open Int (emod_nonneg emod_lt_of_pos zero_add)
open List.Pairwise (imp_of_mem)
open PySem.Challenge (pw_drawhouse_k41_rows_of_one_part rw_drawhouse_k41_rows_of_one_part)
open PySem (boot_len)
open PySem.F (plainAttrs_str slot_str_join type_str_join plainAttrs_list)
open PyProof.Rows (boot_isinstance boot_int boot_bool boot_list boot_any boot_dict boot_tuple)
theorem Z0 {p : Prop} (h : p := by decide) : p := h
theorem Z1 {p : Prop} (h : p := by omega) : p := h
theorem Z2 {p : Prop} (h : p := by simp) : p := h
theorem Z3 {p : Prop} (h : p := by rfl) : p := h
theorem Z4 {p : Prop} (h : p := by decide +kernel) : p := h
theorem Z5 {p : Prop} (h : p := by kernel_rfl) : p := h
theorem Z6 {p : Prop} (h : p := by intro z; cases z) : p := h
namespace L2
open PySem PySem.Spec PyProof.Rows
abbrev Key := Sum Int Str
def vo : Key -> Value -> Bool
 | .inl k, v => Value.isInt k v
 | .inr x, v => Value.isStrOf x v
def QK (w : World) : Key -> Int
 | .inl k => hashInt k
 | .inr x => hashStr w x
theorem cu : ∀ {k : Key} {v : Value}, vo k v = true -> (∃ i t, k = Sum.inl i /\ v = Value.int i t) \/ (∃ x t, k = Sum.inr x /\ v = Value.str x t)
 | .inl i, v, h => by
  obtain ⟨t, e⟩ := Value.isInt_shape (k := i) (v := v) h
  exact .inl ⟨i, t, rfl, e⟩
 | .inr x, v, h => by
  obtain ⟨t, e⟩ := Value.isStrOf_shape (x := x) (v := v) h
  exact .inr ⟨x, t, rfl, e⟩
theorem Do (i : Int) (t : Tok) : vo (.inl i) (.int i t) = true := by simp [vo, Value.isInt]
theorem DP (x : Str) (t : Tok) : vo (.inr x) (.str x t) = true := by simp [vo, Value.isStrOf]
theorem Ks (a b : Int) : decide ((Sum.inl a : Key) = Sum.inl b) = (a == b) := by
 by_cases e : a = b
 ·subst e; simp
 ·have h : ¬ (Sum.inl a : Key) = Sum.inl b := fun q => e (Sum.inl.inj q)
  rw [decide_eq_false h]
  exact (beq_eq_false_iff_ne.mpr e).symm
theorem Kr (a b : Str) : decide ((Sum.inr a : Key) = Sum.inr b) = decide (a = b) := by
 by_cases e : a = b
 ·subst e; simp
 ·have h : ¬ (Sum.inr a : Key) = Sum.inr b := fun q => e (Sum.inr.inj q)
  rw [decide_eq_false h, decide_eq_false e]
theorem Ko (a : Int) (b : Str) : decide ((Sum.inl a : Key) = Sum.inr b) = false := decide_eq_false (fun q => nomatch q)
theorem Jw (a : Str) (b : Int) : decide ((Sum.inr a : Key) = Sum.inl b) = false := decide_eq_false (fun q => nomatch q)
def bL (prog : Program) (w : World) : PySem.KeyKind prog w Key where
 is := vo
 hash := QK w
 inj := fun v a b ha hb => by
  rcases cu ha with ⟨i, t, rfl, rfl⟩ | ⟨x, t, rfl, rfl⟩
  ·rcases cu hb with ⟨j, u, rfl, e⟩ | ⟨y, u, rfl, e⟩
   ·injection e with e1 _; rw [e1]
   ·exact nomatch e
  ·rcases cu hb with ⟨j, u, rfl, e⟩ | ⟨y, u, rfl, e⟩
   ·exact nomatch e
   ·injection e with e1 _; rw [e1]
 byValue := fun k v h => by
  rcases cu h with ⟨i, t, rfl, rfl⟩ | ⟨x, t, rfl, rfl⟩ <;> rfl
 pyHash := fun hv h => by
  rcases cu hv with ⟨i, t, rfl, rfl⟩ | ⟨x, t, rfl, rfl⟩
  ·exact wpAny_pyHash_int h
  ·exact wpAny_pyHash_str h
 eqBool := fun hu hv h => by
  rcases cu hu with ⟨i, t, rfl, rfl⟩ | ⟨x, t, rfl, rfl⟩
  ·rcases cu hv with ⟨j, u, rfl, rfl⟩ | ⟨y, u, rfl, rfl⟩
   ·rw [Ks] at h; exact wpAny_eqBool_int h
   ·rw [Ko] at h; exact SeqAt.EqAt.int_str i t y u _ _ _ _ h
  ·rcases cu hv with ⟨j, u, rfl, rfl⟩ | ⟨y, u, rfl, rfl⟩
   ·rw [Jw] at h; exact SeqAt.EqAt.str_int x t j u _ _ _ _ h
   ·rw [Kr] at h; exact wpAny_eqBool_str h
 «strs» := fun k x t v h => by
  rcases cu h with ⟨i, u, rfl, e⟩ | ⟨y, u, rfl, e⟩
  ·exact nomatch e
  ·injection e with e1 _
   subst e1
   cases v <;> rfl
theorem yV (prog : Program) (w : World) (i : Int) (t : Tok) : (bL prog w).is (.inl i) (.int i t) = true := Do i t
theorem zr (prog : Program) (w : World) (x : Str) (t : Tok) : (bL prog w).is (.inr x) (.str x t) = true := DP x t
inductive V where
 | non | bl (b : Bool) | int (i : Int) | str (x : Str) | byt (b : Array UInt8) | flt (b : UInt64) | ref (a : Addr) | ty (n : String)
 deriving DecidableEq
def RelV : V -> Value -> Prop
 | .non, u => u = Value.none
 | .bl b, u => u = Value.bool b
 | .int i, u => ∃ t, u = Value.int i t
 | .str x, u => ∃ t, u = Value.str x t
 | .byt b, u => ∃ t, u = Value.bytes b t
 | .flt b, u => ∃ t, u = Value.float b t
 | .ref a, u => u = Value.ref a
 | .ty n, u => u = Value.type n
abbrev Vals : List V -> List Value -> Prop := Paired RelV
theorem Vals.length {xs : List V} {us : List Value} (r : Vals xs us) : xs.length = us.length := Paired.length r
theorem Vals.get : ∀ {xs : List V} {us : List Value} {i : Nat} {x : V}, Vals xs us -> xs[i]? = some x -> ∃ u, us[i]? = some u /\ RelV x u
 | _, _, _, _, .nil, e => by simp at e
 | _, _, 0, _, .cons r _, e => by simp at e; subst e; exact ⟨_, rfl, r⟩
 | _, _, i + 1, x, .cons _ t, e => by
  obtain ⟨u, h1, h2⟩ := Vals.get (i := i) (x := x) t (by simpa using e)
  exact ⟨u, by simpa using h1, h2⟩
theorem Vals.set {x : V} {u : Value} (r : RelV x u) : ∀ {xs : List V} {us : List Value} (i : Nat), Vals xs us -> Vals (xs.set i x) (us.set i u)
 | _, _, _, .nil => .nil
 | _, _, 0, .cons _ t => .cons r t
 | _, _, i + 1, .cons q t => .cons q (Vals.set r i t)
theorem Vals.append : ∀ {xs ys : List V} {us ws : List Value}, Vals xs us -> Vals ys ws -> Vals (xs ++ ys) (us ++ ws)
 | _, _, _, _, .nil, s => s
 | _, _, _, _, .cons r t, s => .cons r (Vals.append t s)
theorem Vals.take : ∀ {xs : List V} {us : List Value} (n : Nat), Vals xs us -> Vals (xs.take n) (us.take n)
 | _, _, 0, _ => .nil
 | _, _, _ + 1, .nil => .nil
 | _, _, n + 1, .cons r t => .cons r (Vals.take n t)
theorem Vals.drop : ∀ {xs : List V} {us : List Value} (n : Nat), Vals xs us -> Vals (xs.drop n) (us.drop n)
 | _, _, 0, r => r
 | _, _, _ + 1, .nil => .nil
 | _, _, n + 1, .cons _ t => Vals.drop n t
def oO : Option V -> Option Value -> Prop
 | some v, some u => RelV v u
 | none, none => True
 | _, _ => False
def KV {κ : Type} : List (κ × V) -> List (κ × Value) -> Prop := Paired fun (p : κ × V) (q : κ × Value) => p.1 = q.1 /\ RelV p.2 q.2
def kV : Key -> V
 | .inl i => .int i
 | .inr x => .str x
inductive HO where
 | lst (xs : List V)
 | tup (xs : List V)
 | dK (kvs : List (Key × V)) | dT (kvs : List (List Key × V))
 | set (S : Int -> Bool) (n : Nat)
 | ins (C dx : Addr) (fs : List (Str × V))
 | own (x : Addr)
 | xd (fs : List (Str × V))
 | met (f x : Addr)
 | rng (lo hi : Int)
 | frz (o : Obj) (u : HO)
 | tbl (ps : Array Value)
 | ext (φ : Heap -> Prop)
abbrev Hp := Addr -> Option HO
def upd (H : Hp) (a : Addr) (o : HO) : Hp := fun b => if b = a then some o else H b
theorem ao {H : Hp} {a : Addr} {o : HO} : upd H a o a = some o := by unfold upd; rw [if_pos rfl]
theorem aA {H : Hp} {a b : Addr} {o : HO} (h : b ≠ a) : upd H a o b = H b := by unfold upd; rw [if_neg h]
theorem aF {H : Hp} {a b : Addr} {o u : HO} (h : H a = some o) (h' : H b = some u) (d : o ≠ u) : a ≠ b := by
 intro e; subst e; rw [h] at h'; exact d (Option.some.inj h')
theorem ak {H : Hp} {a b : Addr} {o : HO} (h : H a = some o) (h' : H b = none) : a ≠ b := by
 intro e; subst e; rw [h] at h'; cases h'
section
variable (P : Program) (w : World)
def bM (H : Hp) (h : Heap) (a : Addr) : HO -> Prop
 | .lst xs => xs.length <= sizeLine /\ ∃ (its : List Value) (n : Nat), Vals xs its /\ h.get? a = some { cls := .type "list", data := .seq its.toArray n }
 | .tup xs => xs.length <= sizeLine /\ ∃ its : List Value, Vals xs its /\ IsTup h a its.toArray
 | .dK kvs => kvs.length <= sizeLine /\ (a == sysModules) = false /\ ∃ vs, KV kvs vs /\ h.DictOf (bL P w) a vs
 | .dT kvs => kvs.length <= sizeLine /\ (a == sysModules) = false /\ ∃ xs : List (List Key × Addr × Value),
   Paired (fun (p : List Key × V) (q : List Key × Addr × Value) => p.1 = q.1 /\ H q.2.1 = some (.tup (p.1.map kV)) /\ RelV p.2 q.2.2) kvs xs /\
   ∃ o es ep, h.get? a = some o /\ o.ExactDict /\ o.data = .dict es ep /\ es.toList = xs.map (entryOfKey (tupleKind (bL P w))) /\ (xs.map (·.1)).Nodup
 | .set S n => h.SetOf (intKind P w) a S n
 | .ins C dx fs => H dx = some (.own a) /\ fs.length <= 1000 /\ dx ≠ a /\ h.get? a = some (instObj C dx) /\
   ∃ mA, h.Ns1 dx mA /\ (∀ f, oO (fs.lookup f) (mA f)) /\ PySem.Within mA (fs.map (·.1))
 | .own _ => ∃ o, h.get? a = some o
 | .xd fs => ∃ mA, h.Ns1 a mA /\ ∀ f, oO (fs.lookup f) (mA f)
 | .rng lo hi => ∃ t u v, h.get? a = some { cls := .type "range", data := .fields #[.int lo t, .int hi u, .int 1 v] }
 | .frz o u => h.get? a = some o /\ bM H h a u
 | .tbl ps => h.get? a = some { cls := .none, data := .fields ps }
 | .met f x => h.get? a = some (methodObj (.ref f) (.ref x))
 | .ext φ => φ h /\ (∃ o, h.get? a = some o) /\ ∀ h1 h2 : Heap, φ h1 -> (∀ o, h1.get? a = some o -> h2.get? a = some o) -> φ h2
def HOk (H : Hp) (h : Heap) : Prop := ∀ a o, H a = some o -> bM P w H h a o
end
section
variable {P : Program} {w : World} {H H' : Hp} {h h' : Heap} {a : Addr} {o : HO}
theorem bM.lt (x : bM P w H h a o) : a < h.objs.size := by
 cases o with
 | lst xs => obtain ⟨_, _, _, _, e⟩ := x; exact Heap.lt_size e
 | tup xs => obtain ⟨_, _, _, p⟩ := x; exact p.lt
 | dK kvs => obtain ⟨_, _, _, _, o, _, _, e, _⟩ := x; exact Heap.lt_size e
 | dT kvs => obtain ⟨_, _, _, _, o, _, _, e, _⟩ := x; exact Heap.lt_size e
 | set S n => obtain ⟨o, _, _, _, e, _⟩ := x; exact Heap.lt_size e
 | ins C dx fs => obtain ⟨_, _, _, e, _⟩ := x; exact Heap.lt_size e
 | own y => obtain ⟨_, e⟩ := x; exact Heap.lt_size e
 | xd fs => obtain ⟨_, ⟨_, _, _, e, _⟩, _⟩ := x; exact Heap.lt_size e
 | rng lo hi => obtain ⟨_, _, _, e⟩ := x; exact Heap.lt_size e
 | frz ob u => obtain ⟨e, _⟩ := x; exact Heap.lt_size e
 | tbl ps => exact Heap.lt_size (show h.get? a = some _ from x)
 | met f y => exact Heap.lt_size (show h.get? a = some _ from x)
 | ext φ => obtain ⟨_, ⟨_, e⟩, _⟩ := x; exact Heap.lt_size e
theorem Paired.mapP {α β : Type} {F G : α -> β -> Prop} : ∀ {l₁ : List α} {l₂ : List β}, Paired F l₁ l₂ -> (∀ a b, F a b -> G a b) -> Paired G l₁ l₂
 | _, _, .nil, _ => .nil
 | _, _, .cons r t, f => .cons (f _ _ r) (Paired.mapP t f)
theorem bM.stay (x : bM P w H h a o) (k : ∀ b u, (b = a \/ H b = some (.own a)) -> h.get? b = some u -> h'.get? b = some u)
  (ho : ∀ b, H b = some (.own a) -> H' b = some (.own a)) (ht : ∀ b xs, H b = some (.tup xs) -> H' b = some (.tup xs)) : bM P w H' h' a o := by
 induction o with
 | lst xs => obtain ⟨z, its, n, r, e⟩ := x; exact ⟨z, its, n, r, k _ _ (.inl rfl) e⟩
 | tup xs => obtain ⟨z, its, r, ob, e, c⟩ := x; exact ⟨z, its, r, ob, k _ _ (.inl rfl) e, c⟩
 | dK kvs => obtain ⟨z, y, vs, r, ob, es, ep, e, c⟩ := x; exact ⟨z, y, vs, r, ob, es, ep, k _ _ (.inl rfl) e, c⟩
 | dT kvs =>
  obtain ⟨z, y, xs, r, ob, es, ep, e, c⟩ := x
  exact ⟨z, y, xs, Paired.mapP r fun p q z => ⟨z.1, ht _ _ z.2.1, z.2.2⟩, ob, es, ep, k _ _ (.inl rfl) e, c⟩
 | set S n => obtain ⟨ob, es, ep, t, e, c⟩ := x; exact ⟨ob, es, ep, t, k _ _ (.inl rfl) e, c⟩
 | ins C dx fs =>
  obtain ⟨d, z, ne, e, mA, ⟨od, es, ep, e2, c⟩, r⟩ := x
  exact ⟨ho _ d, z, ne, k _ _ (.inl rfl) e, mA, ⟨od, es, ep, k _ _ (.inr d) e2, c⟩, r⟩
 | own y => obtain ⟨ob, e⟩ := x; exact ⟨ob, k _ _ (.inl rfl) e⟩
 | xd fs => obtain ⟨mA, ⟨od, es, ep, e, c⟩, r⟩ := x; exact ⟨mA, ⟨od, es, ep, k _ _ (.inl rfl) e, c⟩, r⟩
 | rng lo hi => obtain ⟨t, u, v, e⟩ := x; exact ⟨t, u, v, k _ _ (.inl rfl) e⟩
 | frz ob u ih => obtain ⟨e, q⟩ := x; exact ⟨k _ _ (.inl rfl) e, ih q⟩
 | tbl ps =>
  have e : h.get? a = some { cls := .none, data := .fields ps } := x
  show h'.get? a = some { cls := .none, data := .fields ps }
  exact k a _ (.inl rfl) e
 | met f y =>
  have e : h.get? a = some (methodObj (.ref f) (.ref y)) := x
  show h'.get? a = some (methodObj (.ref f) (.ref y))
  exact k a _ (.inl rfl) e
 | ext φ => obtain ⟨p, ⟨o, e⟩, st⟩ := x; exact ⟨st _ _ p fun o q => k _ _ (.inl rfl) q, ⟨o, k _ _ (.inl rfl) e⟩, st⟩
theorem HOk.lt (x : HOk P w H h) (e : H a = some o) : a < h.objs.size := (x a o e).lt
theorem HOk.fresh (x : HOk P w H h) (e : h.objs.size <= a) : H a = none := by
 cases q : H a with
 | none => rfl
 | some u => exact absurd (lt_of_lt_of_le (x.lt q) e) (lt_irrefl _)
theorem HOk.kept (x : HOk P w H h) (k : ∀ b u, h.get? b = some u -> h'.get? b = some u) : HOk P w H h' := fun a o e =>
 (x a o e).stay (fun b u _ q => k b u q) (fun _ q => q) fun _ _ q => q
theorem HOk.laid (x : HOk P w H h) (k : ∀ b u, h.get? b = some u -> h'.get? b = some u) (hp : h.objs.size <= a) (new : bM P w (upd H a o) h' a o) : HOk P w (upd H a o) h' := fun b u e => by
 have hn := x.fresh hp
 by_cases hb : b = a
 ·subst hb; rw [ao] at e; cases e; exact new
 ·rw [aA hb] at e
  exact (x b u e).stay (fun c v _ q => k c v q) (fun c q => by rw [aA (ak q hn)]; exact q) fun c xs q => by rw [aA (ak q hn)]; exact q
end
def Rd (H : Hp) (a : Addr) (u : HO) : Prop := H a = some u \/ ∃ o, H a = some (.frz o u)
theorem Rd.ok {P : Program} {w : World} {H : Hp} {h : Heap} {a : Addr} {u : HO} (r : Rd H a u) (x : HOk P w H h) : bM P w H h a u := by
 rcases r with r | ⟨o, r⟩
 ·exact x a u r
 ·obtain ⟨_, q⟩ := x a _ r
  exact q
def Mut : Option HO -> Prop
 | some (.lst _) => True
 | some (.dK _) => True
 | some (.dT _) => True
 | some (.set _ _) => True
 | some (.ins _ _ _) => True
 | some (.ext _) => True
 | _ => False
section
variable {P : Program} {w : World} {H : Hp} {h h' : Heap} {x e : Addr} {o' : HO}
theorem HOk.write (ok : HOk P w H h) (mu : Mut (H x)) (he : e = x \/ H e = some (.own x)) (k : ∀ b u, b ≠ e -> h.get? b = some u -> h'.get? b = some u) (heo : ∃ u, h'.get? e = some u)
  (new : bM P w (upd H x o') h' x o') : HOk P w (upd H x o') h' := fun b u q => by
 have nown : ∀ c y, H c = some (.own y) -> c ≠ x := fun c y r z => by subst z; rw [r] at mu; exact mu
 have ntup : ∀ c xs, H c = some (.tup xs) -> c ≠ x := fun c xs r z => by subst z; rw [r] at mu; exact mu
 by_cases hb : b = x
 ·subst hb; rw [ao] at q; cases q; exact new
 ·rw [aA hb] at q
  by_cases hbe : b = e
  ·have q' : H b = some (.own x) := by
    rcases he with z | z
    ·exact absurd (hbe.trans z) hb
    ·rw [hbe]; exact z
   rw [q] at q'; cases q'
   obtain ⟨v, hv⟩ := heo
   exact ⟨v, by rw [hbe]; exact hv⟩
  ·refine (ok b u q).stay (fun c v hc r => k c v ?_ r) (fun c r => by rw [aA (nown c b r)]; exact r) fun c xs r => by rw [aA (ntup c xs r)]; exact r
   rcases hc with rfl | hc
   ·exact hbe
   ·rintro rfl
    rcases he with z | z
    ·exact nown c b hc z
    ·rw [hc] at z; cases z; exact hb rfl
end
structure Un (fs ex : List Addr) (H H' : Hp) (h h' : Heap) : Prop where
 keep : ∀ b o, h.get? b = some o -> H b = none -> b ∉ fs -> b ∉ ex -> h'.get? b = some o
 slot : ∀ b o, h.get? b = some o -> H b = none -> b ∈ fs -> b ∉ ex -> ∃ sl, h'.get? b = some { o with slots := sl }
 free : ∀ b o, h.get? b = some o -> H b = none -> b ∉ ex -> H' b = none
 there : ∀ b o, h.get? b = some o -> b ∉ ex -> ∃ o', h'.get? b = some o'
 tups : ∀ b xs, H b = some (.tup xs) -> H' b = some (.tup xs)
 frzs : ∀ b o u, H b = some (.frz o u) -> H' b = some (.frz o u)
 tbls : ∀ b ps, H b = some (.tbl ps) -> ∃ more, H' b = some (.tbl (ps ++ more))
section
variable {fs fs' ex ex' : List Addr} {H H1 H2 : Hp} {h h1 h2 h' : Heap} {a x e : Addr} {o : HO}
theorem Un.any (u : Un fs ex H H1 h h1) {b : Addr} {ob : Obj} (q : h.get? b = some ob) (n : H b = none) (hx : b ∉ ex) : ∃ sl, h1.get? b = some { ob with slots := sl } := by
 by_cases hb : b ∈ fs
 ·exact u.slot b ob q n hb hx
 ·exact ⟨ob.slots, u.keep b ob q n hb hx⟩
theorem Un.kept (k : ∀ b u, h.get? b = some u -> h'.get? b = some u) : Un fs ex H H h h' :=
 ⟨fun b ob q _ _ _ => k b ob q, fun b ob q _ _ _ => ⟨ob.slots, k b ob q⟩, fun _ _ _ n _ => n, fun b ob q _ => ⟨ob, k b ob q⟩, fun _ _ q => q, fun _ _ _ q => q, fun _ ps q => ⟨#[], by rw [q]; simp⟩⟩
theorem Un.refl : Un fs ex H H h h := Un.kept fun _ _ q => q
theorem Un.laid (k : ∀ b u, h.get? b = some u -> h'.get? b = some u) (hp : h.objs.size <= a) (hn : H a = none) : Un fs ex H (upd H a o) h h' where
 keep := fun b u q _ _ _ => k b u q
 slot := fun b u q _ _ _ => ⟨u.slots, k b u q⟩
 free := fun b u q n _ => by rw [aA (ne_of_lt (lt_of_lt_of_le (Heap.lt_size q) hp))]; exact n
 there := fun b u q _ => ⟨u, k b u q⟩
 tups := fun b xs q => by rw [aA (ak q hn)]; exact q
 frzs := fun b u xs q => by rw [aA (ak q hn)]; exact q
 tbls := fun b ps q => ⟨#[], by rw [aA (ak q hn), q]; simp⟩
theorem Un.write (mu : Mut (H x)) (he : e = x \/ H e = some (.own x)) (k : ∀ b u, b ≠ e -> h.get? b = some u -> h'.get? b = some u) (heo : ∃ u, h'.get? e = some u) : Un fs ex H (upd H x o) h h' := by
 have hx : ∀ b, H b = none -> b ≠ x := fun b n z => by subst z; rw [n] at mu; exact mu
 have hb : ∀ b, H b = none -> b ≠ e := fun b n z => by
  subst z
  rcases he with r | r
  ·exact hx b n r
  ·rw [n] at r; cases r
 have hm : ∀ b u, H b = some u -> ¬ Mut (some u) -> b ≠ x := fun b u q nm z => by subst z; rw [q] at mu; exact nm mu
 refine ⟨fun b u q n _ _ => k b u (hb b n) q, fun b u q n _ _ => ⟨u.slots, k b u (hb b n) q⟩, fun b u q n _ => by rw [aA (hx b n)]; exact n, fun b u q _ => ?_,
  fun b xs q => by rw [aA (hm b _ q fun z => z)]; exact q, fun b u xs q => by rw [aA (hm b _ q fun z => z)]; exact q, fun b ps q => ⟨#[], by rw [aA (hm b _ q fun z => z), q]; simp⟩⟩
 by_cases hbe : b = e
 ·subst hbe; exact heo
 ·exact ⟨u, k b u hbe q⟩
end
def trk (h : Heap) (H : Hp) : List Addr := (List.range h.objs.size).filter fun a => (H a).isSome
def xG (h : Heap) (H : Hp) : Heap := PySem.W.hideAll h (trk h H)
theorem De (h : Heap) (H : Hp) : (xG h H).objs.size = h.objs.size := PySem.W.hideAll_size _ _
theorem Gx {h : Heap} {H : Hp} {b : Addr} {o : Obj} (e : h.get? b = some o) (n : H b = none) : (xG h H).get? b = some o :=
 PySem.W.hideAll_get _ e fun hm => by
  have q : (H b).isSome = true := (mem_filter.mp hm).2
  rw [n] at q; simp at q
theorem Hl {h : Heap} {H : Hp} {b : Addr} {o : Obj} (e : (xG h H).get? b = some o) : h.get? b = some o /\ H b = none := by
 have e' : h.get? b = some o := PySem.W.of_hideAll (trk h H) e
 refine ⟨e', ?_⟩
 cases q : H b with
 | none => rfl
 | some x =>
  have hm : b ∈ trk h H := mem_filter.mpr ⟨mem_range.mpr (Heap.lt_size e'), by simp [q]⟩
  have z : (xG h H).get? b = none := PySem.W.hideAll_none (trk h H) hm
  rw [z] at e; cases e
structure Mod (K : Frag) (mg : MG) (base : Heap) : Prop where
 kin : K.In base
 glob : base.Ns mainGlobals mg
 blt : ∃ mb, base.Ns builtinsNs mb /\ ∀ x : Str, x ≠ "__name__" -> mb x = bootBuiltins x
 nolimit : base.NoLimit
structure Cx where
 prog : Program
 w : World
 K : Frag
 mg : Str -> Option Value
 base : Heap
 A : Around
 N : List Str
 s₀ : Shared
 H₀ : Hp
 env : Env
 outer : List Env
 stack : List Env
 ex : List Addr
 fn : Str -> Bool
 calm : Bool
 pn : OP
 xe : Value -> Shared -> Prop
def frs (l : List Env) : List Addr := l.filterMap (·.frame)
abbrev Cx.fs (X : Cx) : List Addr := frs X.outer
def Vis (sc : Scope) (x : Str) : Prop := sc.names.lookup x = some .local \/ sc.names.lookup x = some .cell \/ sc.names.lookup x = some .free
def Loc (sc : Scope) (x : Str) : Prop := sc.names.lookup x = some .local \/ sc.names.lookup x = some .cell
def Look (env : Env) (h : Heap) (m : MG) (x : Str) (u : Value) : Prop :=
 (env.kindOf x = some .local /\ m x = some u) \/ ((env.kindOf x = some .cell \/ env.kindOf x = some .free) /\ ∃ c, env.cells.lookup x = some c /\ h.IsCell c (some u))
structure Cx.Ok (X : Cx) : Prop where
 mod : Mod X.K X.mg X.base
 kind : X.env.scope.kind = .function
 glob : X.env.globals = mainGlobals
 blt : X.env.builtins = builtinsNs
 above : X.s₀.heap.objs.size <= X.env.locals
 inj : ∀ x y c, X.env.cells.lookup x = some c -> X.env.cells.lookup y = some c -> x = y
 has : ∀ x, (X.env.kindOf x = some .cell \/ X.env.kindOf x = some .free) -> ∃ c, X.env.cells.lookup x = some c
 cab : ∀ x c, X.fn x = true -> X.env.cells.lookup x = some c -> X.s₀.heap.objs.size <= c
 hd : X.calm = true -> X.A.handled = none
 frames : X.A.frames = some X.stack
 stk : X.stack = X.outer \/ (X.stack = X.env :: X.outer /\ X.env.frame = some X.env.locals)
 exf : ∀ b ∈ X.ex, b ≠ X.env.locals /\ ∀ x c, X.env.cells.lookup x = some c -> c ≠ b
 bs : ∀ b o, X.base.get? b = some o -> X.s₀.heap.get? b = some o /\ X.H₀ b = none
 bsz : X.base.objs.size <= X.s₀.heap.objs.size
 noex : ∀ b o, X.base.get? b = some o -> b ∉ X.ex
 exfs : ∀ b ∈ X.ex, b ∉ X.fs
 funs : X.s₀.heap.FunFrames X.base X.outer
 frf : ∀ b ∈ X.fs, X.H₀ b = none
structure Inv (X : Cx) (pins : OP) (σ : List (Option V)) (H : Hp) (s : Shared) : Prop where
 ok : X.Ok
 os : s.os = X.s₀.os
 bare : AllBare s.gens
 base : Un X.fs X.ex X.H₀ H X.s₀.heap s.heap
 loc : ∃ m, s.heap.Ns X.env.locals m /\ ∀ (i : Nat) (x : Str) (v : V), X.N[i]? = some x -> σ[i]? = some (some v) -> Vis X.env.scope x -> ∃ u, RelV v u /\ Look X.env s.heap m x u
 cell : ∀ x c, X.env.cells.lookup x = some c -> ∃ v, s.heap.IsCell c v
 free : H X.env.locals = none
 freeC : ∀ x c, X.env.cells.lookup x = some c -> H c = none
 pin : ∀ p ∈ X.pn ++ pins, s.heap.get? p.1 = some p.2 /\ H p.1 = none /\ p.1 ≠ X.env.locals /\ p.1 ∉ X.fs /\ ∀ v, p.2.data ≠ .cell v
 hok : HOk X.prog X.w H s.heap
 len : σ.length = X.N.length
section
variable {X : Cx} {pins : OP} {σ : List (Option V)} {H H' : Hp} {s : Shared} {h' : Heap}
theorem Cx.Ok.nofr (ok : X.Ok) {b : Addr} {o : Obj} (e : X.base.get? b = some o) : b ∉ X.fs := fun hb => by
 have := (ok.funs.mem hb).1
 rw [e] at this; cases this
theorem Inv.bs (I : Inv X pins σ H s) : ∀ b o, X.base.get? b = some o -> s.heap.get? b = some o /\ H b = none := fun b o e =>
 ⟨I.base.keep b o (I.ok.bs b o e).1 (I.ok.bs b o e).2 (I.ok.nofr e) (I.ok.noex b o e), I.base.free b o (I.ok.bs b o e).1 (I.ok.bs b o e).2 (I.ok.noex b o e)⟩
theorem Inv.bk (I : Inv X pins σ H s) : ∀ b o, X.base.get? b = some o -> s.heap.get? b = some o := fun b o e => (I.bs b o e).1
theorem Inv.mod (I : Inv X pins σ H s) : Mod X.K X.mg X.base := I.ok.mod
theorem Inv.kIn (I : Inv X pins σ H s) : X.K.In s.heap := I.ok.mod.kin.keeps I.bk
theorem Inv.lt (I : Inv X pins σ H s) : X.env.locals < s.heap.objs.size := let ⟨_, hn, _⟩ := I.loc; hn.lt
theorem Inv.sz (I : Inv X pins σ H s) : X.s₀.heap.objs.size <= s.heap.objs.size := le_trans I.ok.above (le_of_lt I.lt)
theorem Inv.nofs (I : Inv X pins σ H s) {a : Addr} (h : s.heap.objs.size <= a) : a ∉ X.fs := fun hb => by
 obtain ⟨_, o, ho, _⟩ := I.ok.funs.mem hb
 exact absurd (lt_of_lt_of_le (Heap.lt_size ho) (le_trans I.sz h)) (lt_irrefl _)
theorem Inv.cne (I : Inv X pins σ H s) : ∀ x c, X.env.cells.lookup x = some c -> c ≠ X.env.locals := fun x c e z => by
 obtain ⟨v, o, ho, hd⟩ := I.cell x c e
 obtain ⟨m, ⟨o', es, ep, ho', hd', _⟩, _⟩ := I.loc
 rw [z, ho'] at ho; cases ho; rw [hd'] at hd; cases hd
theorem Inv.funs (I : Inv X pins σ H s) : s.heap.FunFrames X.base X.outer := by
 have all : ∀ (l : List Env), (∀ b ∈ frs l, b ∈ X.fs) -> X.s₀.heap.FunFrames X.base l -> s.heap.FunFrames X.base l := by
  intro l
  induction l with
  | nil => intro _ _; trivial
  | cons env r ih =>
   intro hs hl
   obtain ⟨hk, ⟨L, o, hf, hn, ho, hd⟩, hr⟩ := hl
   have hL : L ∈ X.fs := hs L (by unfold frs; rw [List.filterMap_cons, hf]; exact mem_cons_self)
   obtain ⟨sl, e⟩ := I.base.slot L o ho (I.ok.frf L hL) hL fun z => I.ok.exfs L z hL
   exact ⟨hk, ⟨L, _, hf, hn, e, hd⟩, ih (fun b hb => hs b (by unfold frs; rw [List.filterMap_cons, hf]; exact mem_cons_of_mem _ hb)) hr⟩
 exact all X.outer (fun _ hb => hb) I.ok.funs
theorem Inv.stack (I : Inv X pins σ H s) : s.heap.FunFrames X.base X.stack := by
 rcases I.ok.stk with e | ⟨e, hf⟩
 ·rw [e]; exact I.funs
 ·rw [e]
  obtain ⟨m, hn, _⟩ := I.loc
  refine .cons (by rw [I.ok.kind]; decide) hf hn ?_ I.funs
  exact Heap.get?_none_of_le (le_trans I.ok.bsz I.ok.above)
theorem Inv.stkSub (I : Inv X pins σ H s) : ∀ b ∈ frs X.stack, b ∈ X.env.locals :: X.fs := fun b hb => by
 rcases I.ok.stk with e | ⟨e, hf⟩
 ·rw [e] at hb; exact mem_cons_of_mem _ hb
 ·rw [e] at hb
  unfold frs at hb
  rw [List.filterMap_cons, hf] at hb
  exact hb
theorem Inv.stkFree (I : Inv X pins σ H s) : ∀ b ∈ frs X.stack, H b = none := fun b hb => by
 rcases mem_cons.mp (I.stkSub b hb) with e | hb
 ·rw [e]; exact I.free
 ·obtain ⟨_, o, ho, _⟩ := I.ok.funs.mem hb
  exact I.base.free b o ho (I.ok.frf b hb) fun z => I.ok.exfs b z hb
theorem Inv.step {g' : Array GenState} {t' : Nat} {d' : Drawn} {ch : List Addr} (I : Inv X pins σ H s)
  (hch : ∀ b ∈ ch, (b ∈ X.ex \/ X.s₀.heap.objs.size <= b) /\ b ≠ X.env.locals /\ (∀ x c, X.env.cells.lookup x = some c -> c ≠ b) /\ ∀ p ∈ X.pn ++ pins, p.1 ≠ b)
  (keep : ∀ b o, b ≠ X.env.locals -> b ∉ X.fs -> b ∉ ch -> s.heap.get? b = some o -> H b = none -> h'.get? b = some o)
  (slot : ∀ b o, b ≠ X.env.locals -> b ∈ X.fs -> b ∉ ch -> s.heap.get? b = some o -> H b = none -> ∃ sl, h'.get? b = some { o with slots := sl }) (free : ∀ b o, b ∉ ch -> s.heap.get? b = some o -> H b = none -> H' b = none)
  (there : ∀ b o, b ∉ ch -> s.heap.get? b = some o -> ∃ o', h'.get? b = some o')
  (tups : ∀ b xs, H b = some (.tup xs) -> H' b = some (.tup xs)) (frzs : ∀ b o u, H b = some (.frz o u) -> H' b = some (.frz o u)) (tbls : ∀ b ps, H b = some (.tbl ps) -> ∃ more, H' b = some (.tbl (ps ++ more)))
  (ns : ∀ m, s.heap.Ns X.env.locals m -> h'.Ns X.env.locals m) (hok : HOk X.prog X.w H' h') (hg : AllBare g') :
  Inv X pins σ H' { s with heap := h', gens := g', drawn := d', toks := t' } := by
 have neL : ∀ b o, X.s₀.heap.get? b = some o -> b ≠ X.env.locals := fun b o e => ne_of_lt (lt_of_lt_of_le (Heap.lt_size e) I.ok.above)
 have neC : ∀ b o, X.s₀.heap.get? b = some o -> b ∉ X.ex -> b ∉ ch := fun b o e hx hb => by
  rcases (hch b hb).1 with z | z
  ·exact hx z
  ·exact absurd (lt_of_lt_of_le (Heap.lt_size e) z) (lt_irrefl _)
 have cellK : ∀ x c, X.env.cells.lookup x = some c -> ∀ v, s.heap.IsCell c v -> h'.IsCell c v := fun x c e v ⟨o, ho, hd⟩ => by
  have nch : c ∉ ch := fun z => (hch c z).2.2.1 x c e rfl
  by_cases hc : c ∈ X.fs
  ·obtain ⟨sl, q⟩ := slot c o (I.cne x c e) hc nch ho (I.freeC x c e)
   exact ⟨_, q, hd⟩
  ·exact ⟨o, keep c o (I.cne x c e) hc nch ho (I.freeC x c e), hd⟩
 refine ⟨I.ok, I.os, hg, ⟨fun b o e n hb hx => ?_, fun b o e n hb hx => ?_, fun b o e n hx => ?_, fun b o e hx => ?_, fun b xs e => tups b xs (I.base.tups b xs e), fun b o xs e => frzs b o xs (I.base.frzs b o xs e), fun b ps e => ?_⟩, ?_, fun x c e => ?_, ?_, fun x c e => ?_, fun p hp => ?_, hok, I.len⟩
 ·exact keep b o (neL b o e) hb (neC b o e hx) (I.base.keep b o e n hb hx) (I.base.free b o e n hx)
 ·obtain ⟨sl, e1⟩ := I.base.slot b o e n hb hx
  obtain ⟨sl', e2⟩ := slot b _ (neL b o e) hb (neC b o e hx) e1 (I.base.free b o e n hx)
  exact ⟨sl', e2⟩
 ·obtain ⟨o', e1⟩ := I.base.there b o e hx
  exact free b o' (neC b o e hx) e1 (I.base.free b o e n hx)
 ·obtain ⟨o', e1⟩ := I.base.there b o e hx
  exact there b o' (neC b o e hx) e1
 ·obtain ⟨m1, e1⟩ := I.base.tbls b ps e
  obtain ⟨m2, e2⟩ := tbls b _ e1
  exact ⟨m1 ++ m2, by rw [e2, Array.append_assoc]⟩
 ·obtain ⟨m, hn, hl⟩ := I.loc
  refine ⟨m, ns m hn, fun i x v e1 e2 e3 => ?_⟩
  obtain ⟨u, r, l⟩ := hl i x v e1 e2 e3
  refine ⟨u, r, ?_⟩
  rcases l with l | ⟨k, c, e, z⟩
  ·exact .inl l
  ·exact .inr ⟨k, c, e, cellK x c e _ z⟩
 ·obtain ⟨v, z⟩ := I.cell x c e
  exact ⟨v, cellK x c e v z⟩
 ·obtain ⟨m, ⟨o, _, _, ho, _⟩, _⟩ := I.loc
  exact free _ o (fun z => (hch _ z).2.1 rfl) ho I.free
 ·obtain ⟨v, o, ho, hd⟩ := I.cell x c e
  exact free c o (fun z => (hch c z).2.2.1 x c e rfl) ho (I.freeC x c e)
 ·obtain ⟨e, n, ne, nf, d⟩ := I.pin p hp
  have nch : p.1 ∉ ch := fun z => (hch p.1 z).2.2.2 p hp rfl
  exact ⟨keep p.1 p.2 ne nf nch e n, free p.1 p.2 nch e n, ne, nf, d⟩
theorem Inv.un {t' : Nat} (I : Inv X pins σ H s) (u : Un X.fs [] H H' s.heap h') (hok : HOk X.prog X.w H' h') : Inv X pins σ H' { s with heap := h', toks := t' } := by
 obtain ⟨m, ⟨o, es, ep, ho, r⟩, _⟩ := id I.loc
 obtain ⟨sl, hL⟩ := u.any ho I.free Z2
 exact I.step (g' := s.gens) (d' := s.drawn) (ch := []) (fun _ z => nomatch z) (fun b o _ hb _ e n => u.keep b o e n hb Z2) (fun b o _ hb _ e n => u.slot b o e n hb Z2) (fun b o _ e n => u.free b o e n Z2) (fun b o _ e => u.there b o e Z2) u.tups u.frzs u.tbls (fun m' hm => by
  obtain ⟨o', es', ep', ho', r'⟩ := hm
  rw [ho] at ho'; cases ho'
  exact ⟨_, es', ep', hL, r'⟩) hok I.bare
theorem Inv.call {g' : Array GenState} {t' : Nat} {d' : Drawn} {ch : List Addr} (I : Inv X pins σ H s) (u : Un (frs X.stack) ch H H' s.heap h') (hok : HOk X.prog X.w H' h') (hg : AllBare g')
  (hch : ∀ b ∈ ch, (b ∈ X.ex \/ X.s₀.heap.objs.size <= b) /\ b ≠ X.env.locals /\ (∀ x c, X.env.cells.lookup x = some c -> c ≠ b) /\ ∀ p ∈ X.pn ++ pins, p.1 ≠ b) :
  Inv X pins σ H' { s with heap := h', gens := g', drawn := d', toks := t' } := by
 obtain ⟨m, ⟨o, es, ep, ho, r⟩, _⟩ := id I.loc
 obtain ⟨sl, hL⟩ := u.any ho I.free fun z => (hch _ z).2.1 rfl
 exact I.step (ch := ch) hch (fun b o hL hb hc e n => u.keep b o e n (fun z => (mem_cons.mp (I.stkSub b z)).elim hL hb) hc) (fun b o _ _ hc e n => u.any e n hc) (fun b o hc e n => u.free b o e n hc) (fun b o hc e => u.there b o e hc) u.tups u.frzs u.tbls (fun m' hm => by
  obtain ⟨o', es', ep', ho', r'⟩ := hm
  rw [ho] at ho'; cases ho'
  exact ⟨_, es', ep', hL, r'⟩) hok hg
theorem Inv.turned {t' : Nat} {it : Addr} (I : Inv X pins σ H s) (k : ∀ b o, b ≠ it -> s.heap.get? b = some o -> h'.get? b = some o) (hn : H it = none) (hL : it ≠ X.env.locals)
  (h1 : it ∈ X.ex \/ X.s₀.heap.objs.size <= it) (h2 : ∀ x c, X.env.cells.lookup x = some c -> c ≠ it) (h3 : ∀ p ∈ X.pn ++ pins, p.1 ≠ it) : Inv X pins σ H { s with heap := h', toks := t' } := by
 have nit : ∀ b u, H b = some u -> b ≠ it := fun b u e z => by rw [z, hn] at e; cases e
 refine I.step (g' := s.gens) (d' := s.drawn) (ch := [it]) (fun b hb => ?_) (fun b o _ _ hc e _ => k b o (fun z => hc (by simp [z])) e) (fun b o _ _ hc e _ => ⟨o.slots, k b o (fun z => hc (by simp [z])) e⟩) (fun _ _ _ _ n => n)
  (fun b o hc e => ⟨o, k b o (fun z => hc (by simp [z])) e⟩) (fun _ _ e => e) (fun _ _ _ e => e) (fun b ps e => ⟨#[], by rw [e]; simp⟩) (fun m hm => ?_) (fun b u e => ?_) I.bare
 ·have e : b = it := by simpa using hb
  subst e
  exact ⟨h1, hL, h2, h3⟩
 ·obtain ⟨o, es, ep, ho, r⟩ := hm
  exact ⟨o, es, ep, k _ o (Ne.symm hL) ho, r⟩
 ·refine (I.hok b u e).stay (fun c v hc q => k c v ?_ q) (fun _ q => q) fun _ _ q => q
  rcases hc with z | z
  ·rw [z]; exact nit b u e
  ·exact nit c _ z
theorem Inv.tok (I : Inv X pins σ H s) (t : Nat) : Inv X pins σ H { s with toks := t } := I.un (h' := s.heap) (t' := t) Un.refl I.hok
theorem Inv.kept {t' : Nat} (I : Inv X pins σ H s) (k : ∀ b u, s.heap.get? b = some u -> h'.get? b = some u) : Inv X pins σ H { s with heap := h', toks := t' } := I.un (Un.kept k) (I.hok.kept k)
theorem Inv.laid {a : Addr} {o : HO} {t' : Nat} (I : Inv X pins σ H s) (k : ∀ b u, s.heap.get? b = some u -> h'.get? b = some u) (hp : s.heap.objs.size <= a) (new : bM X.prog X.w (upd H a o) h' a o) :
  Inv X pins σ (upd H a o) { s with heap := h', toks := t' } := I.un (Un.laid k hp (I.hok.fresh hp)) (I.hok.laid k hp new)
theorem Inv.write {x e : Addr} {o : HO} {t' : Nat} (I : Inv X pins σ H s) (mu : Mut (H x)) (he : e = x \/ H e = some (.own x)) (k : ∀ b u, b ≠ e -> s.heap.get? b = some u -> h'.get? b = some u) (heo : ∃ u, h'.get? e = some u)
  (new : bM X.prog X.w (upd H x o) h' x o) : Inv X pins σ (upd H x o) { s with heap := h', toks := t' } := I.un (Un.write mu he k heo) (I.hok.write mu he k heo new)
theorem Inv.pins_of {pins' : OP} (I : Inv X pins σ H s) (h : ∀ p ∈ pins', s.heap.get? p.1 = some p.2 /\ H p.1 = none /\ p.1 ≠ X.env.locals /\ p.1 ∉ X.fs /\ ∀ v, p.2.data ≠ .cell v) : Inv X pins' σ H s :=
 ⟨I.ok, I.os, I.bare, I.base, I.loc, I.cell, I.free, I.freeC, fun p hp => (mem_append.mp hp).elim (fun z => I.pin p (mem_append_left _ z)) (h p), I.hok, I.len⟩
theorem yJ {N : List Str} (hN : N.Nodup) {i j : Nat} {x : Str} (a : N[i]? = some x) (b : N[j]? = some x) : i = j := by
 obtain ⟨h1, e1⟩ := List.getElem?_eq_some_iff.mp a
 obtain ⟨h2, e2⟩ := List.getElem?_eq_some_iff.mp b
 exact (List.getElem_inj hN).mp (e1.trans e2.symm)
theorem vp {M : Model} {A : Around} {E : EV} {i : Nat} {x : Str} {v : V} {u : Value} {Q : Unit -> Shared -> Prop} (I : Inv X pins σ H s) (hN : X.N.Nodup) (hi : X.N[i]? = some x) (hx : Loc X.env.scope x) (r : RelV v u)
  (h : ∀ s', Inv X pins (σ.set i (some v)) H s' -> (∃ a, Heap.SameBut a s.heap s'.heap /\ (a = X.env.locals \/ X.env.cells.lookup x = some a)) -> Q () s') (hf : X.fn x = true \/ X.env.scope.names.lookup x = some .local := by first | exact .inl rfl | exact .inr rfl | assumption) : wpAny M A (storeName X.env x u) Q E s := by
 obtain ⟨m, hn, hl⟩ := id I.loc
 have hcls : (X.env.scope.kind == .class || (X.env.scope.kind == .module && X.env.locals != X.env.globals)) = false := by rw [I.ok.kind]; rfl
 have hiσ : i < σ.length := by rw [I.len]; exact (List.getElem?_eq_some_iff.mp hi).1
 have cne := I.cne
 have tracked : ∀ {a : Addr} {h' : Heap}, (∃ o, s.heap.get? a = some o /\ H a = none) -> Heap.SameBut a s.heap h' -> HOk X.prog X.w H h' := fun {a h'} ha hs b ob e => by
  obtain ⟨_, _, hfree⟩ := ha
  refine (I.hok b ob e).stay (fun c w' hc q => (hs.2 c ?_).trans q) (fun _ q => q) fun _ _ q => q
  rintro rfl
  rcases hc with rfl | hc
  ·rw [hfree] at e; cases e
  ·rw [hfree] at hc; cases hc
 rcases hx with hk | hk
 ·refine wpAny_storeName_local hk hn (fun h' hn' hs => ?_) hcls
  obtain ⟨oL, _, _, hoL, _⟩ := id hn
  refine h _ ⟨I.ok, I.os, I.bare, ⟨fun b o e n hb hx => ?_, fun b o e n hb hx => ?_, I.base.free, fun b o e hx => ?_, I.base.tups, I.base.frzs, I.base.tbls⟩, ⟨_, hn', fun j y v' e1 e2 e3 => ?_⟩, fun y c e => ?_, I.free, I.freeC, fun p hp => ?_, tracked ⟨oL, hoL, I.free⟩ hs, by simpa using I.len⟩ ⟨_, hs, .inl rfl⟩
  ·exact (hs.2 b (ne_of_lt (lt_of_lt_of_le (Heap.lt_size e) I.ok.above))).trans (I.base.keep b o e n hb hx)
  ·obtain ⟨sl, e1⟩ := I.base.slot b o e n hb hx
   exact ⟨sl, (hs.2 b (ne_of_lt (lt_of_lt_of_le (Heap.lt_size e) I.ok.above))).trans e1⟩
  ·obtain ⟨o', e1⟩ := I.base.there b o e hx
   exact ⟨o', (hs.2 b (ne_of_lt (lt_of_lt_of_le (Heap.lt_size e) I.ok.above))).trans e1⟩
  ·by_cases hj : j = i
   ·subst hj
    rw [hi] at e1; cases e1
    rw [getElem?_set_self hiσ] at e2
    cases e2
    exact ⟨u, r, .inl ⟨hk, Z2⟩⟩
   ·rw [getElem?_set_ne (Ne.symm hj)] at e2
    obtain ⟨u', r', q⟩ := hl j y v' e1 e2 e3
    refine ⟨u', r', ?_⟩
    rcases q with ⟨k, e⟩ | ⟨k, c, e, z⟩
    ·refine .inl ⟨k, ?_⟩
     have : y ≠ x := fun e => hj (yJ hN e1 (e ▸ hi))
     simp [this, e]
    ·exact .inr ⟨k, c, e, z.sameBut hs (cne y c e)⟩
  ·obtain ⟨w', z⟩ := I.cell y c e
   exact ⟨w', z.sameBut hs (cne y c e)⟩
  ·obtain ⟨e, n, ne, nf, d⟩ := I.pin p hp
   exact ⟨(hs.2 p.1 ne).trans e, n, ne, nf, d⟩
 ·have hfn : X.fn x = true := by
   rcases hf with z | z
   ·exact z
   ·rw [z] at hk; cases hk
  obtain ⟨c, hc⟩ := I.ok.has x (.inl hk)
  obtain ⟨w', z⟩ := I.cell x c hc
  refine wpAny_storeName_cell I.ok.kind hk hc z (fun h' hc' hs => ?_)
  obtain ⟨oc, hoc, hocd⟩ := id z
  refine h { s with heap := h' } ⟨I.ok, I.os, I.bare, ⟨fun b o e n hb hx => ?_, fun b o e n hb hx => ?_, I.base.free, fun b o e hx => ?_, I.base.tups, I.base.frzs, I.base.tbls⟩, ⟨m, hn.sameBut hs (Ne.symm (cne x c hc)), fun j y v' e1 e2 e3 => ?_⟩, fun y c' e => ?_, I.free, I.freeC, fun p hp => ?_, tracked ⟨oc, hoc, I.freeC x c hc⟩ hs, by simpa using I.len⟩ ⟨c, hs, .inr hc⟩
  ·exact (hs.2 b (ne_of_lt (lt_of_lt_of_le (Heap.lt_size e) (I.ok.cab x c hfn hc)))).trans (I.base.keep b o e n hb hx)
  ·obtain ⟨sl, e1⟩ := I.base.slot b o e n hb hx
   exact ⟨sl, (hs.2 b (ne_of_lt (lt_of_lt_of_le (Heap.lt_size e) (I.ok.cab x c hfn hc)))).trans e1⟩
  ·obtain ⟨o', e1⟩ := I.base.there b o e hx
   exact ⟨o', (hs.2 b (ne_of_lt (lt_of_lt_of_le (Heap.lt_size e) (I.ok.cab x c hfn hc)))).trans e1⟩
  ·by_cases hj : j = i
   ·subst hj
    rw [hi] at e1; cases e1
    rw [getElem?_set_self hiσ] at e2
    cases e2
    exact ⟨u, r, .inr ⟨.inl hk, c, hc, hc'⟩⟩
   ·rw [getElem?_set_ne (Ne.symm hj)] at e2
    obtain ⟨u', r', q⟩ := hl j y v' e1 e2 e3
    refine ⟨u', r', ?_⟩
    rcases q with q | ⟨k, c', e, z'⟩
    ·exact .inl q
    ·refine .inr ⟨k, c', e, z'.sameBut hs ?_⟩
     rintro rfl
     exact hj (yJ hN e1 (I.ok.inj _ _ _ e hc ▸ hi))
  ·by_cases hcc : c' = c
   ·subst hcc; exact ⟨_, hc'⟩
   ·obtain ⟨w2, z2⟩ := I.cell y c' e
    exact ⟨w2, z2.sameBut hs hcc⟩
  ·obtain ⟨e, n, ne, nf, d⟩ := I.pin p hp
   refine ⟨(hs.2 p.1 ?_).trans e, n, ne, nf, d⟩
   intro q
   rw [q, hoc] at e
   have q' : oc = p.2 := Option.some.inj e
   exact d w' (by rw [<- q']; exact hocd)
theorem tM {M : Model} {A : Around} {E : EV} {i : Nat} {x : Str} {v : V} {u : Value} {Q : Unit -> Shared -> Prop} (I : Inv X pins σ H s) (hN : X.N.Nodup) (hi : X.N[i]? = some x) (hx : Loc X.env.scope x) (r : RelV v u)
  (h : ∀ s', Inv X pins (σ.set i (some v)) H s' -> Q () s') (hf : X.fn x = true \/ X.env.scope.names.lookup x = some .local := by first | exact .inl rfl | exact .inr rfl | assumption) : wpAny M A (storeName X.env x u) Q E s :=
 vp I hN hi hx r (fun s' I' _ => h s' I') hf
theorem Inv.call' {s' : Shared} {ch : List Addr} (I : Inv X pins σ H s) (ho : s'.os = s.os) (u : Un (frs X.stack) ch H H' s.heap s'.heap) (hok : HOk X.prog X.w H' s'.heap) (hg : AllBare s'.gens)
  (hch : ∀ b ∈ ch, (b ∈ X.ex \/ X.s₀.heap.objs.size <= b) /\ b ≠ X.env.locals /\ (∀ x c, X.env.cells.lookup x = some c -> c ≠ b) /\ ∀ p ∈ X.pn ++ pins, p.1 ≠ b) : Inv X pins σ H' s' := by
 obtain ⟨h', g', d', t', o'⟩ := s'
 have e : o' = s.os := ho
 subst e
 exact I.call (g' := g') (t' := t') (d' := d') u hok hg hch
end
abbrev XK := Value -> Option Addr -> Hp -> Prop
abbrev St := List (Option V)
abbrev VK := V -> Hp -> Prop
abbrev TE := St -> Hp -> VK -> Prop
abbrev TT := St -> Hp -> (Bool -> Hp -> Prop) -> Prop
abbrev TA := St -> Hp -> (List V -> Hp -> Prop) -> Prop
structure Ends where
 nx : St -> Hp -> Prop
 rt : VK
 bk : St -> Hp -> Prop := fun _ _ => False
 ct : St -> Hp -> Prop := fun _ _ => False
abbrev TS := Ends -> St -> Hp -> Prop
def EP (X : Cx) (pins : OP) (σ : St) (Q : VK) (u : Value) (s' : Shared) : Prop := ∃ v H', Inv X pins σ H' s' /\ RelV v u /\ Q v H'
def TP (X : Cx) (pins : OP) (σ : St) (Q : Bool -> Hp -> Prop) (b : Bool) (s' : Shared) : Prop := ∃ H', Inv X pins σ H' s' /\ Q b H'
def AP (X : Cx) (pins : OP) (σ : St) (Q : List V -> Hp -> Prop) (us : List Value) (s' : Shared) : Prop := ∃ vs H', Inv X pins σ H' s' /\ Vals vs us /\ Q vs H'
def SP (X : Cx) (pins : OP) (D : Ends) (f : Flow) (s' : Shared) : Prop :=
 match f with
 | .next => ∃ σ' H', Inv X pins σ' H' s' /\ D.nx σ' H'
 | .brk => ∃ σ' H', Inv X pins σ' H' s' /\ D.bk σ' H'
 | .cont => ∃ σ' H', Inv X pins σ' H' s' /\ D.ct σ' H'
 | .ret u => ∃ v σ' H', Inv X pins σ' H' s' /\ RelV v u /\ D.rt v H'
def PE (X : Cx) (e : Expr) (t : TE) : Prop :=
 ∀ (pins : OP) (s : Shared) (σ : St) (H : Hp) (Q : VK), Inv X pins σ H s -> t σ H Q -> wpAny (model X.prog X.w) X.A (eval e X.env) (EP X pins σ Q) X.xe s
def PT (X : Cx) (e : Expr) (t : TT) : Prop :=
 ∀ (pins : OP) (s : Shared) (σ : St) (H : Hp) (Q : Bool -> Hp -> Prop), Inv X pins σ H s -> t σ H Q -> wpAny (model X.prog X.w) X.A (isTrue e X.env (eval e X.env)) (TP X pins σ Q) X.xe s
def PW (X : Cx) (e : Expr) (t : TT) : Prop :=
 ∀ (whole : Sem Value) (pins : OP) (s : Shared) (σ : St) (H : Hp) (Q : Bool -> Hp -> Prop), Inv X pins σ H s -> t σ H Q -> wpAny (model X.prog X.w) X.A (isTrue e X.env whole) (TP X pins σ Q) X.xe s
theorem PW.pt {X : Cx} {e : Expr} {t : TT} (h : PW X e t) : PT X e t := h _
def PA (X : Cx) (es : List Expr) (t : TA) : Prop :=
 ∀ (pos : Pos) (pins : OP) (s : Shared) (σ : St) (H : Hp) (Q : List V -> Hp -> Prop), Inv X pins σ H s -> t σ H Q -> wpAny (model X.prog X.w) X.A (spliced (backTo pos (starEach es X.env))) (AP X pins σ Q) X.xe s
def PS (X : Cx) (st : Stmt) (t : TS) : Prop :=
 ∀ (pins : OP) (s : Shared) (σ : St) (H : Hp) (D : Ends), Inv X pins σ H s -> t D σ H -> wpAny (model X.prog X.w) X.A (exec st X.env) (SP X pins D) X.xe s
def PSs (X : Cx) (st : List Stmt) (t : TS) : Prop :=
 ∀ (pins : OP) (s : Shared) (σ : St) (H : Hp) (D : Ends), Inv X pins σ H s -> t D σ H -> wpAny (model X.prog X.w) X.A (execs st X.env) (SP X pins D) X.xe s
theorem thn {α : Type} {t : Sem α} {Q Q' : α -> Shared -> Prop} {M : Model} {A : Around} {E : EV} {s : Shared} (h : wpAny M A t Q E s) (hQ : ∀ a s, Q a s -> Q' a s) : wpAny M A t Q' E s := wpAny_mono h hQ fun _ _ x => x
section
variable {X : Cx}
def wU (i : Nat) : TE := fun σ H Q => ∃ v, σ[i]? = some (some v) /\ Q v H
def tC (v : V) : TE := fun _ H Q => Q v H
theorem JB {i : Nat} {x : Str} {pos : Pos} (hN : X.N[i]? = some x) (hv : Vis X.env.scope x) (hd : (x == ("__debug__" : Str)) = false := by decide) (hcd : (x == ("__classdict__" : Str)) = false := by decide) : PE X (.Name x pos) (wU i) := by
 intro pins s σ H Q I h
 obtain ⟨v, e, h⟩ := h
 obtain ⟨m, hn, hl⟩ := I.loc
 obtain ⟨u, r, l⟩ := hl i x v hN e hv
 have fin : EP X pins σ Q u s := ⟨v, H, I, r, h⟩
 rcases l with ⟨hk, hm⟩ | ⟨hk, c, hc, hcell⟩
 ·exact wpAny_Name (wpAny_loadName_local I.ok.kind hk hn hm fin) hd
 ·rcases hk with hk | hk
  ·exact wpAny_Name (wpAny_loadName_cell I.ok.kind hk hc hcell fin) hd
  ·exact wpAny_Name (wpAny_loadName_free I.ok.kind hk hc hcell fin hcd) hd
theorem aB {i j pos} : PE X (.Constant (.int i) j pos) (tC (.int i)) := fun _ _ _ H _ I h => wpAny_Constant_int ⟨.int i, H, I.tok _, ⟨_, rfl⟩, h⟩
theorem oZ {b j pos} : PE X (.Constant (.bool b) j pos) (tC (.bl b)) := fun _ _ _ H _ I h => Constant_bool ⟨.bl b, H, I, rfl, h⟩
theorem FN {j pos} : PE X (.Constant .none j pos) (tC .non) := fun _ _ _ H _ I h => Constant_none ⟨.non, H, I, rfl, h⟩
theorem aL {x j pos} : PE X (.Constant (.str x) j pos) (tC (.str x)) := fun _ _ _ H _ I h => Calls.Constant_str ⟨.str x, H, I.tok _, ⟨_, rfl⟩, h⟩
def Gl (X : Cx) (x : Str) : Prop := X.env.kindOf x = some .globalImplicit
theorem xT {E : EV} {pins : OP} {s : Shared} {σ : St} {H : Hp} {x : Str} {u : Value} {pos : Pos} {Q : EV} (I : Inv X pins σ H s) (hg : Gl X x) (hm : X.mg x = some u) (h : Q u s)
  (hd : (x == ("__debug__" : Str)) = false := by decide) : wpAny (model X.prog X.w) X.A (eval (.Name x pos) X.env) Q E s :=
 Calls.Name_function_global I.ok.kind hg (Calls.loadGlobal_global (by rw [I.ok.glob]; exact I.mod.glob.keeps I.bk) hm h) hd
theorem qQ {E : EV} {pins : OP} {s : Shared} {σ : St} {H : Hp} {x : Str} {u : Value} {pos : Pos} {Q : EV} (I : Inv X pins σ H s) (hg : Gl X x) (hm : X.mg x = none) (hv : bootBuiltins x = some u) (h : Q u s)
  (hn : x ≠ "__name__" := by decide) (hd : (x == ("__debug__" : Str)) = false := by decide) : wpAny (model X.prog X.w) X.A (eval (.Name x pos) X.env) Q E s := by
 obtain ⟨mb, h1, h2⟩ := I.mod.blt
 exact Calls.Name_function_global I.ok.kind hg (Calls.loadGlobal_builtin (by rw [I.ok.glob]; exact I.mod.glob.keeps I.bk) hm (by rw [I.ok.blt]; exact h1.keeps I.bk) ((h2 x hn).trans hv) h) hd
theorem BL {x : Str} {v : V} {u : Value} {pos : Pos} (hg : Gl X x) (hm : X.mg x = some u) (r : RelV v u) (hd : (x == ("__debug__" : Str)) = false := by decide) : PE X (.Name x pos) (tC v) :=
 fun _ _ _ H _ I h => xT I hg hm ⟨v, H, I, r, h⟩ hd
theorem jY {x : Str} {v : V} {u : Value} {pos : Pos} (hg : Gl X x) (hm : X.mg x = none) (hv : bootBuiltins x = some u) (r : RelV v u) (hn : x ≠ "__name__" := by decide) (hd : (x == ("__debug__" : Str)) = false := by decide) : PE X (.Name x pos) (tC v) :=
 fun _ _ _ H _ I h => qQ I hg hm hv ⟨v, H, I, r, h⟩ hn hd
variable {a b : Expr} {ta tb : TE} {pos : Pos}
def PC (X : Cx) (op : CmpOp) (a b : Expr) (t : TE) : Prop :=
 ∀ (pins : OP) (s : Shared) (σ : St) (H : Hp) (Q : VK), Inv X pins σ H s -> t σ H Q ->
  wpAny (model X.prog X.w) X.A (eval a X.env) (fun v s₁ => wpAny (model X.prog X.w) X.A (eval b X.env) (fun u s₂ => wpAny (model X.prog X.w) X.A (compareOp op v u) (EP X pins σ Q) X.xe s₂) X.xe s₁) X.xe s
def tB (t : TE) : TT := fun σ H Q => t σ H fun x H1 => ∃ c, x = .bl c /\ Q c H1
theorem Gu {op : CmpOp} {t : TE} (h : PC X op a b t) (h1 : behindInMarks op b = false := by first | exact nobehind _ Z0 Z0 | rfl) : PT X (.Compare a [op] [b] pos) (tB t) := by
 intro pins s σ H Q I hw
 refine wpAny_isTrue_Compare1 (thn (h pins s σ H _ I hw) fun v s1 h1 => thn h1 fun u s2 h2 => thn h2 fun c s3 ⟨x, H1, I1, r1, q1⟩ => ?_) h1
 obtain ⟨d, rfl, q⟩ := q1
 cases r1
 exact wpAny_truthy_bool ⟨H1, I1, q⟩
theorem fY {e : Expr} {t : TE} (h : PE X e t) (he : ∀ whole, isTrue e X.env whole = (do let v <- whole; standAt e.pos; holding [v] (truthy v)) := by intro _; rfl) : PT X e (tB t) := by
 intro pins s σ H Q I hw
 refine isTrue_plain (thn (h pins s σ H _ I hw) fun v s1 ⟨x, H1, I1, r1, q1⟩ => ?_) (he _)
 obtain ⟨d, rfl, q⟩ := q1
 cases r1
 exact wpAny_truthy_bool ⟨H1, I1, q⟩
variable {tA tB' : TT} {rest : List Expr}
def Nm (t u : TT) : TT := fun σ H Q => t σ H fun c H1 => if c = true then u σ H1 Q else Q false H1
def tOr (t u : TT) : TT := fun σ H Q => t σ H fun c H1 => if c = true then Q true H1 else u σ H1 Q
def MJ (t : TT) : TT := fun σ H Q => t σ H fun c H1 => Q (!c) H1
theorem kW (ha : PT X a tA) : PW X (.BoolOp .And [a] pos) tA := by
 intro wh pins s σ H Q I h
 refine isTrue_and (thn (ha pins s σ H Q I h) fun c s1 e => ?_)
 cases c with
 | true => exact isTrue_and_nil e
 | false => exact e
theorem tL (ha : PT X a tA) : PW X (.BoolOp .Or [a] pos) tA := by
 intro wh pins s σ H Q I h
 refine isTrue_or (thn (ha pins s σ H Q I h) fun c s1 e => ?_)
 cases c with
 | false => exact isTrue_or_nil e
 | true => exact e
theorem mD (ha : PT X a tA) (hb : PW X (.BoolOp .And (b :: rest) pos) tB') : PW X (.BoolOp .And (a :: b :: rest) pos) (Nm tA tB') := by
 intro wh pins s σ H Q I h
 refine isTrue_and (thn (ha pins s σ H _ I h) fun c s1 ⟨H1, I1, q1⟩ => ?_)
 cases c with
 | true => exact hb wh pins s1 σ H1 Q I1 q1
 | false => exact ⟨H1, I1, q1⟩
theorem tW (ha : PT X a tA) (hb : PW X (.BoolOp .Or (b :: rest) pos) tB') : PW X (.BoolOp .Or (a :: b :: rest) pos) (tOr tA tB') := by
 intro wh pins s σ H Q I h
 refine isTrue_or (thn (ha pins s σ H _ I h) fun c s1 ⟨H1, I1, q1⟩ => ?_)
 cases c with
 | true => exact ⟨H1, I1, q1⟩
 | false => exact hb wh pins s1 σ H1 Q I1 q1
theorem uv (ha : PT X a tA) : PT X (.UnaryOp .Not a pos) (MJ tA) := by
 intro pins s σ H Q I h
 exact isTrue_not (ha pins s σ H (fun c H1 => Q (!c) H1) I h)
def Kz (ta tb : TE) : TE := fun σ H Q => ta σ H fun x H1 => ∃ c, x = .bl c /\ if c = true then tb σ H1 Q else Q (.bl false) H1
def Lr (ta : TE) : TE := fun σ H Q => ta σ H fun x H1 => ∃ c, x = .bl c /\ Q (.bl (!c)) H1
theorem zW {op} {t : TE} (h : PE X a t) : PE X (.BoolOp op [a] pos) t := fun pins s σ H Q I hw => BoolOp_one (h pins s σ H Q I hw)
theorem Az (ha : PE X a ta) (hb : PE X (.BoolOp .And (b :: rest) pos) tb) : PE X (.BoolOp .And (a :: b :: rest) pos) (Kz ta tb) := by
 intro pins s σ H Q I h
 refine BoolOp_and (thn (ha pins s σ H _ I h) fun v s1 ⟨x, H1, I1, r1, q1⟩ => ?_)
 obtain ⟨c, rfl, q1⟩ := q1
 cases r1
 refine wpAny_truthy_bool ?_
 cases c with
 | true => exact hb pins s1 σ H1 Q I1 q1
 | false => exact ⟨.bl false, H1, I1, rfl, q1⟩
theorem Kl (ha : PE X a ta) : PE X (.UnaryOp .Not a pos) (Lr ta) := by
 intro pins s σ H Q I h
 refine UnaryOp_ (thn (ha pins s σ H _ I h) fun v s1 ⟨x, H1, I1, r1, q1⟩ => ?_)
 obtain ⟨c, rfl, q1⟩ := q1
 cases r1
 exact not_of (wpAny_truthy_bool ⟨.bl (!c), H1, I1, rfl, q1⟩)
def tIf (t : TT) (ta tb : TE) : TE := fun σ H Q => t σ H fun c H1 => if c = true then ta σ H1 Q else tb σ H1 Q
theorem zg {c : Expr} (hc : PT X c tA) (ha : PE X a ta) (hb : PE X b tb) : PE X (.IfExp c a b pos) (tIf tA ta tb) := by
 intro pins s σ H Q I h
 refine wpAny_IfExp (thn (hc pins s σ H _ I h) fun d s1 ⟨H1, I1, q1⟩ => ?_)
 cases d with
 | true => exact ha pins s1 σ H1 Q I1 q1
 | false => exact hb pins s1 σ H1 Q I1 q1
end
def SqL (K : Frag) (H : Hp) (a : Addr) (xs : List V) : Prop :=
 Rd H a (.lst xs) \/
  ∃ (o : Obj) (its : Array Value) (n : Nat), K.lookup a = some o /\ o.cls = .type "list" /\ o.dict = none /\ o.data = .seq its n /\ its.size <= sizeLine /\ Vals xs its.toList
def SqT (K : Frag) (H : Hp) (a : Addr) (xs : List V) : Prop :=
 Rd H a (.tup xs) \/
  ∃ (o : Obj) (its : Array Value) (n : Nat), K.lookup a = some o /\ o.cls = .type "tuple" /\ o.data = .seq its n /\ its.size <= sizeLine /\ Vals xs its.toList
def Ow : Value -> Option V
 | .none => some .non
 | .bool b => some (.bl b)
 | .int i _ => some (.int i)
 | .str x _ => some (.str x)
 | .bytes b _ => some (.byt b)
 | .float b _ => some (.flt b)
 | .ref a => some (.ref a)
 | .type n => some (.ty n)
 | _ => none
theorem RelV.abs {x : V} {u : Value} (r : RelV x u) : Ow u = some x := by
 cases x with
 | non => cases r; rfl
 | bl _ => cases r; rfl
 | int _ => obtain ⟨t, rfl⟩ := r; rfl
 | str _ => obtain ⟨t, rfl⟩ := r; rfl
 | byt _ => obtain ⟨t, rfl⟩ := r; rfl
 | flt _ => obtain ⟨t, rfl⟩ := r; rfl
 | ref _ => cases r; rfl
 | ty _ => cases r; rfl
theorem RelV.inj {x y : V} {u : Value} (r : RelV x u) (q : RelV y u) : x = y := Option.some.inj (r.abs.symm.trans q.abs)
theorem Vals.inj : ∀ {xs ys : List V} {us : List Value}, Vals xs us -> Vals ys us -> xs = ys
 | _, _, _, .nil, .nil => rfl
 | _, _, _, .cons r t, .cons r' t' => by rw [r.inj r', Vals.inj t t']
section
variable {X : Cx} {pins : OP} {σ : St} {H : Hp} {s : Shared} {a : Addr} {xs ys : List V}
theorem SqL.of {K : Frag} (h : H a = some (.lst xs)) : SqL K H a xs := .inl (.inl h)
theorem SqT.of {K : Frag} (h : H a = some (.tup xs)) : SqT K H a xs := .inl (.inl h)
theorem Inv.list (I : Inv X pins σ H s) (h : SqL X.K H a xs) : ∃ its : List Value, Vals xs its /\ PlainL s.heap a its.toArray /\ xs.length <= sizeLine := by
 rcases h with h | ⟨o, its, n, hk, hc, hd, hs, hz, r⟩
 ·obtain ⟨z, its, n, r, e⟩ := h.ok I.hok
  exact ⟨its, r, ⟨_, n, e, rfl, rfl, rfl⟩, z⟩
 ·refine ⟨its.toList, r, ⟨o, n, I.kIn a o hk, hc, hd, by simpa using hs⟩, ?_⟩
  have e := r.length
  simp only [length_toList] at e
  omega
theorem Inv.tuple (I : Inv X pins σ H s) (h : SqT X.K H a xs) : ∃ its : List Value, Vals xs its /\ IsTup s.heap a its.toArray /\ xs.length <= sizeLine := by
 rcases h with h | ⟨o, its, n, hk, hc, hs, hz, r⟩
 ·obtain ⟨z, its, r, p⟩ := h.ok I.hok
  exact ⟨its, r, p, z⟩
 ·refine ⟨its.toList, r, ⟨o, I.kIn a o hk, hc, n, by simpa using hs⟩, ?_⟩
  have e := r.length
  simp only [length_toList] at e
  omega
theorem Inv.list_inj (I : Inv X pins σ H s) (h : SqL X.K H a xs) (h' : SqL X.K H a ys) : xs = ys := by
 obtain ⟨its, r, ⟨o, n, e, _, _, d⟩, _⟩ := I.list h
 obtain ⟨its', r', ⟨o', n', e', _, _, d'⟩, _⟩ := I.list h'
 rw [e] at e'; cases e'
 rw [d] at d'
 injection d' with d1 _
 have : its = its' := by simpa using congrArg Array.toList d1
 subst this
 exact r.inj r'
theorem Inv.tuple_inj (I : Inv X pins σ H s) (h : SqT X.K H a xs) (h' : SqT X.K H a ys) : xs = ys := by
 obtain ⟨its, r, ⟨o, e, _, n, d⟩, _⟩ := I.tuple h
 obtain ⟨its', r', ⟨o', e', _, n', d'⟩, _⟩ := I.tuple h'
 rw [e] at e'; cases e'
 rw [d] at d'
 injection d' with d1 _
 have : its = its' := by simpa using congrArg Array.toList d1
 subst this
 exact r.inj r'
end
abbrev Cx.wish (X : Cx) (E : EV) : Cx := { X with xe := E }
abbrev Cx.nox (X : Cx) : Cx := X.wish fun _ _ => False
theorem Cx.Ok.wish {X : Cx} (ok : X.Ok) (E : EV) : (X.wish E).Ok :=
 ⟨ok.mod, ok.kind, ok.glob, ok.blt, ok.above, ok.inj, ok.has, ok.cab, ok.hd, ok.frames, ok.stk, ok.exf, ok.bs, ok.bsz, ok.noex, ok.exfs, ok.funs, ok.frf⟩
theorem Cx.Ok.unwish {X : Cx} {E : EV} (ok : (X.wish E).Ok) : X.Ok :=
 ⟨ok.mod, ok.kind, ok.glob, ok.blt, ok.above, ok.inj, ok.has, ok.cab, ok.hd, ok.frames, ok.stk, ok.exf, ok.bs, ok.bsz, ok.noex, ok.exfs, ok.funs, ok.frf⟩
section
variable {X : Cx} {pins : OP} {σ : St} {H : Hp} {s : Shared} {E : EV}
theorem Inv.wish (I : Inv X pins σ H s) (E : EV) : Inv (X.wish E) pins σ H s := ⟨I.ok.wish E, I.os, I.bare, I.base, I.loc, I.cell, I.free, I.freeC, I.pin, I.hok, I.len⟩
theorem Inv.unwish (I : Inv (X.wish E) pins σ H s) : Inv X pins σ H s := ⟨I.ok.unwish, I.os, I.bare, I.base, I.loc, I.cell, I.free, I.freeC, I.pin, I.hok, I.len⟩
theorem SP.unwish {D : Ends} {f : Flow} {s' : Shared} (h : SP (X.wish E) pins D f s') : SP X pins D f s' := by
 cases f with
 | next => obtain ⟨σ', H', I, q⟩ := h; exact ⟨σ', H', I.unwish, q⟩
 | brk => obtain ⟨σ', H', I, q⟩ := h; exact ⟨σ', H', I.unwish, q⟩
 | cont => obtain ⟨σ', H', I, q⟩ := h; exact ⟨σ', H', I.unwish, q⟩
 | ret u => obtain ⟨v, σ', H', I, r, q⟩ := h; exact ⟨v, σ', H', I.unwish, r, q⟩
theorem PSs.nox {st : List Stmt} {t : TS} (h : PSs X.nox st t) : PSs X st t := fun pins s σ H D I hw =>
 wpAny_mono (h pins s σ H D (I.wish _) hw) (fun _ _ q => q.unwish) fun _ _ z => False.elim z
end
section
variable {X : Cx} {st : Stmt} {rest : List Stmt} {t u : TS} {e : Expr} {te : TE} {pos : Pos}
def IV : TS := fun D σ H => D.nx σ H
def Lq (t u : TS) : TS := fun D σ H => t { D with nx := u D } σ H
theorem sW : PSs X [] IV := fun _ _ σ H _ I h => wpAny_execs_nil ⟨σ, H, I, h⟩
theorem qm (h1 : PS X st t) (h2 : PSs X rest u) : PSs X (st :: rest) (Lq t u) := by
 intro pins s σ H D I h
 refine wpAny_execs_cons (thn (h1 pins s σ H { D with nx := u D } I h) fun f s1 q => ?_)
 cases f with
 | next =>
  obtain ⟨σ', H', I', q⟩ := q
  exact h2 pins s1 σ' H' D I' q
 | ret v => exact q
 | brk => exact q
 | cont => exact q
theorem mU (h1 : PS X st t) : PSs X [st] t := by
 intro pins s σ H D I h
 refine wpAny_execs_cons (thn (h1 pins s σ H D I h) fun f s1 q => ?_)
 cases f with
 | next => exact wpAny_execs_nil q
 | ret v => exact q
 | brk => exact q
 | cont => exact q
theorem Inv.quiet {pins : OP} {σ : St} {H : Hp} {s : Shared} (I : Inv X pins σ H s) : interactive X.env = false := by simp [interactive, I.ok.kind]
def Fg (te : TE) : TS := fun D σ H => te σ H fun _ H1 => D.nx σ H1
theorem Io (he : PE X e te) (hs : swapsWith e none pos.line X.env = pure false := by rfl) : PS X (.Expr e pos) (Fg te) := by
 intro pins s σ H D I h
 exact wpAny_Expr_any (thn (he pins s σ H _ I h) fun v s1 ⟨x, H1, I1, r1, q1⟩ => ⟨σ, H1, I1, q1⟩) I.quiet hs
def HD (te : TE) : TS := fun D σ H => te σ H D.rt
theorem pB (he : PE X e te) : PS X (.Return (some e) pos) (HD te) := by
 intro pins s σ H D I h
 exact wpAny_Return_some (thn (he pins s σ H _ I h) fun v s1 ⟨x, H1, I1, r1, q1⟩ => ⟨x, σ, H1, I1, r1, q1⟩)
def Mi (c : TT) (t u : TS) : TS := fun D σ H => c σ H fun b H1 => if b = true then t D σ H1 else u D σ H1
theorem Cm {c : Expr} {a b : List Stmt} {tc : TT} (hc : PT X c tc) (ha : PSs X a t) (hb : PSs X b u) : PS X (.If c a b pos) (Mi tc t u) := by
 intro pins s σ H D I h
 refine wpAny_If (thn (hc pins s σ H _ I h) fun d s1 ⟨H1, I1, q1⟩ => ?_)
 cases d with
 | true => exact ha pins s1 σ H1 D I1 q1
 | false => exact hb pins s1 σ H1 D I1 q1
end
abbrev TG := V -> St -> Hp -> (St -> Hp -> Prop) -> Prop
abbrev TGs := List V -> St -> Hp -> (St -> Hp -> Prop) -> Prop
def PG (X : Cx) (target : Expr) (t : TG) : Prop :=
 ∀ (pins : OP) (s : Shared) (σ : St) (H : Hp) (v : V) (u : Value) (Q : St -> Hp -> Prop), Inv X pins σ H s -> RelV v u -> t v σ H Q ->
  wpAny (model X.prog X.w) X.A (assign target X.env u) (fun _ s' => ∃ σ' H', Inv X pins σ' H' s' /\ Q σ' H') X.xe s
def PGs (X : Cx) (ts : List Expr) (t : TGs) : Prop :=
 ∀ (pins : OP) (s : Shared) (σ : St) (H : Hp) (vs : List V) (us : List Value) (Q : St -> Hp -> Prop), Inv X pins σ H s -> Vals vs us -> t vs σ H Q ->
  wpAny (model X.prog X.w) X.A (assignInOrder ((assignEach ts X.env).map (·.2)) us) (fun _ s' => ∃ σ' H', Inv X pins σ' H' s' /\ Q σ' H') X.xe s
abbrev Km := V -> V -> V -> Hp -> (Hp -> Prop) -> Prop
def LR (X : Cx) (t : Km) : Prop :=
 ∀ (pins : OP) (s : Shared) (σ : St) (H : Hp) (o i v : V) (ov iv u : Value) (Q : Hp -> Prop), Inv X pins σ H s -> RelV o ov -> RelV i iv -> RelV v u -> t o i v H Q ->
  wpAny (model X.prog X.w) X.A (setItem ov iv u) (fun _ s' => ∃ H', Inv X pins σ H' s' /\ Q H') X.xe s
abbrev TIp := V -> V -> Hp -> VK -> Prop
def PIp (X : Cx) (op : Operator) (t : TIp) : Prop :=
 ∀ (pins : OP) (s : Shared) (σ : St) (H : Hp) (x y : V) (v u : Value) (Q : VK), Inv X pins σ H s -> RelV x v -> RelV y u -> t x y H Q ->
  wpAny (model X.prog X.w) X.A (inplaceOp op v u) (EP X pins σ Q) X.xe s
section
variable {X : Cx} {pos : Pos}
def iT (i : Nat) : TG := fun v σ H Q => Q (σ.set i (some v)) H
theorem aJ {i : Nat} {x : Str} (hN : X.N.Nodup) (hi : X.N[i]? = some x) (hx : Loc X.env.scope x) (hf : X.fn x = true \/ X.env.scope.names.lookup x = some .local := by first | exact .inl rfl | exact .inr rfl | assumption) : PG X (.Name x pos) (iT i) := by
 intro pins s σ H v u Q I r h
 exact wpAny_assign_Name (tM I hN hi hx r (fun s' I' => ⟨_, H, I', h⟩) hf)
def MT : TGs := fun vs σ H Q => vs = [] /\ Q σ H
def LK (t : TG) (u : TGs) : TGs := fun vs σ H Q => ∃ v r, vs = v :: r /\ t v σ H fun σ' H' => u r σ' H' Q
theorem du : PGs X [] MT := by
 intro pins s σ H vs us Q I r h
 obtain ⟨e, h⟩ := h
 subst e
 cases r
 exact assignInOrder_nil ⟨σ, H, I, h⟩
theorem aV {e : Expr} {es : List Expr} {t : TG} {u : TGs} (h1 : PG X e t) (h2 : PGs X es u)
  (hs : (assignEach (e :: es) X.env).map (·.2) = assign e X.env :: (assignEach es X.env).map (·.2) := by rfl) : PGs X (e :: es) (LK t u) := by
 intro pins s σ H vs us Q I r h
 obtain ⟨v, vr, e1, h⟩ := h
 subst e1
 cases r with
 | cons r rr =>
  rw [hs]
  refine assignInOrder_cons (thn (h1 pins s σ H _ _ _ I r h) fun _ s1 ⟨σ1, H1, I1, q1⟩ => ?_)
  exact h2 pins s1 σ1 H1 _ _ Q I1 rr q1
def Ma (K : Frag) (n : Nat) (t : TGs) : TG := fun v σ H Q => ∃ a xs, v = .ref a /\ SqT K H a xs /\ xs.length = n /\ t xs σ H Q
theorem Jx {es : List Expr} {k : Nat} {t : TGs} {n : Nat} (hc : X.calm = true) (h : PGs X es t)
  (hn : (assignEach es X.env).length = n := by rfl) (hst : (assignEach es X.env).findIdx? (·.1) = none := by rfl) : PG X (.Tuple es k pos) (Ma X.K n t) := by
 intro pins s σ H v u Q I r hw
 obtain ⟨a, xs, e1, hq, hl, hw⟩ := hw
 subst e1
 cases r
 obtain ⟨its, rv, ht, hz⟩ := I.tuple hq
 refine assign_Tuple_tuple (I.ok.hd hc) ht (by simp [hn, <- hl, rv.length]) hst fun h' hx => ?_
 have I1 : Inv X pins σ H { s with heap := h' } := I.kept (t' := s.toks) fun b o e => hx b o (ne_of_lt (Heap.lt_size e)) e
 exact h pins _ σ H xs _ Q I1 (by simpa using rv) hw
def N8 (to ti : TE) (t : Km) : TG := fun v σ H Q => to σ H fun o H1 => ti σ H1 fun i H2 => t o i v H2 fun H3 => Q σ H3
theorem Ak {o i : Expr} {to ti : TE} {t : Km} (ho : PE X o to) (hi : PE X i ti) (hs : LR X t)
  (ha : ∀ v, assign (.Subscript o i pos) X.env v = (do
   let ov <- holding [v] (eval o X.env)
   let iv <- holding [v, ov] (eval i X.env)
   standAt pos
   holding [v, ov, iv] (setItem ov iv v)
   release [v, ov, iv] []) := by intro _; rfl) : PG X (.Subscript o i pos) (N8 to ti t) := by
 intro pins s σ H v u Q I r h
 rw [ha]
 refine wpAny_bind (wpAny_holding (thn (ho pins s σ H _ I h) fun ov s1 ⟨x, H1, I1, r1, q1⟩ => ?_))
 refine wpAny_bind (wpAny_holding (thn (hi pins s1 σ H1 _ I1 q1) fun iv s2 ⟨y, H2, I2, r2, q2⟩ => ?_))
 refine wpAny_bind (wpAny_standAt (wpAny_bind (wpAny_holding (thn (hs pins s2 σ H2 x y v ov iv u _ I2 r1 r2 r q2) fun _ s3 ⟨H3, I3, q3⟩ => ?_))))
 exact wpAny_release ⟨σ, H3, I3, q3⟩
def Dz (te : TE) (g : TG) : TS := fun D σ H => te σ H fun x H1 => g x σ H1 D.nx
theorem Kw {tg e : Expr} {te : TE} {g : TG} (he : PE X e te) (hg : PG X tg g) (hs : swapsWithSole [tg] e pos.line X.env = pure false := by rfl) (hw : swappedStores [tg] e X.env = pure none := by rfl)
  (h1 : (assignEach [tg] X.env).map (·.2) = [assign tg X.env] := by rfl) : PS X (.Assign [tg] e pos) (Dz te g) := by
 intro pins s σ H D I h
 refine wpAny_Assign_stores (thn (he pins s σ H _ I h) fun v s1 ⟨x, H1, I1, r1, q1⟩ => ?_) hs hw
 rw [h1]
 exact thn (hg pins s1 σ H1 x v _ I1 r1 q1) fun _ s2 q => q
theorem Jr {i : Nat} {x : Str} {e : Expr} {te : TE} {pos' : Pos} (hN : X.N.Nodup) (hi : X.N[i]? = some x) (hx : Loc X.env.scope x) (he : PE X e te) (hs : swapsWith e (some (.Name x pos')) pos.line X.env = pure false := by rfl) (hf : X.fn x = true \/ X.env.scope.names.lookup x = some .local := by first | exact .inl rfl | exact .inr rfl | assumption) :
  PS X (.Assign [.Name x pos'] e pos) (Dz te (iT i)) := by
 intro pins s σ H D I h
 refine wpAny_Assign_Name (thn (he pins s σ H _ I h) fun v s1 ⟨y, H1, I1, r1, q1⟩ => ?_) hs
 exact tM I1 hN hi hx r1 (fun s2 I2 => ⟨_, H1, I2, q1⟩) hf
def Pk (i : Nat) (te : TE) (ti : TIp) : TS := fun D σ H => ∃ x, σ[i]? = some (some x) /\ te σ H fun y H1 => ti x y H1 fun z H2 => D.nx (σ.set i (some z)) H2
theorem EY {i : Nat} {x : Str} {e : Expr} {te : TE} {op : Operator} {ti : TIp} {pos' : Pos} (hN : X.N.Nodup) (hi : X.N[i]? = some x) (hx : Loc X.env.scope x) (he : PE X e te) (ho : PIp X op ti) (hf : X.fn x = true \/ X.env.scope.names.lookup x = some .local := by first | exact .inl rfl | exact .inr rfl | assumption) :
  PS X (.AugAssign (.Name x pos') op e pos) (Pk i te ti) := by
 intro pins s σ H D I h
 obtain ⟨v, e1, h⟩ := h
 obtain ⟨m, hn, hl⟩ := I.loc
 have vis : Vis X.env.scope x := by rcases hx with k | k; exact .inl k; exact .inr (.inl k)
 obtain ⟨u, r, l⟩ := hl i x v hi e1 vis
 refine wpAny_AugAssign_Name ?_
 have go : wpAny (model X.prog X.w) X.A (eval e X.env) (fun w s₂ => wpAny (model X.prog X.w) X.A (inplaceOp op u w) (fun r s₃ => wpAny (model X.prog X.w) X.A (storeName X.env x r) (fun _ => SP X pins D .next) X.xe s₃) X.xe s₂) X.xe s := by
  refine thn (he pins s σ H _ I h) fun w s1 ⟨y, H1, I1, r1, q1⟩ => ?_
  refine thn (ho pins s1 σ H1 v y u w _ I1 r r1 q1) fun z s2 ⟨zv, H2, I2, r2, q2⟩ => ?_
  exact tM I2 hN hi hx r2 (fun s3 I3 => ⟨_, H2, I3, q2⟩) hf
 rcases l with ⟨hk, hm⟩ | ⟨hk, c, hc, hcell⟩
 ·exact wpAny_loadName_local I.ok.kind hk hn hm go
 ·rcases hk with hk | hk
  ·exact wpAny_loadName_cell I.ok.kind hk hc hcell go
  ·rcases hx with k | k
   ·have : X.env.scope.names.lookup x = some .free := hk
    rw [k] at this; cases this
   ·have : X.env.scope.names.lookup x = some .free := hk
    rw [k] at this; cases this
end
section
variable {X : Cx} {pos : Pos}
end
structure It where
 go : Nat -> Hp -> Prop
 yld : Nat -> Hp -> V -> Hp -> Prop
 stop : Nat -> Hp -> Prop
def uR (X : Cx) (pins : OP) (H : Hp) (b : Addr) : Prop :=
 H b = none /\ b ≠ X.env.locals /\ b ∉ X.fs /\ (b ∈ X.ex \/ X.s₀.heap.objs.size <= b) /\ (∀ x c, X.env.cells.lookup x = some c -> c ≠ b) /\ ∀ p ∈ X.pn ++ pins, p.1 ≠ b
theorem Inv.fpOk {X : Cx} {pins : OP} {σ : St} {H H' : Hp} {s : Shared} {b : Addr} (I : Inv X pins σ H s) (hb : s.heap.objs.size <= b) (hn : H' b = none) : uR X pins H' b := by
 refine ⟨hn, ne_of_gt (lt_of_lt_of_le I.lt hb), I.nofs hb, .inr (le_trans I.sz hb), fun x c e z => ?_, fun p hp z => ?_⟩
 ·obtain ⟨v, q⟩ := I.cell x c e
  exact absurd (lt_of_lt_of_le q.lt (by rw [z]; exact hb)) (lt_irrefl _)
 ·exact absurd (lt_of_lt_of_le (Heap.lt_size (I.pin p hp).1) (by rw [z]; exact hb)) (lt_irrefl _)
structure Turn (P : Program) (w : World) (K : Frag) (tg : Expr) (J : It) (fp : List Addr) (it : Addr) (tn : Nat -> Heap -> Prop) : Prop where
 mem : it ∈ fp
 obj : ∀ i h, tn i h -> ∀ b ∈ fp, ∃ o, h.get? b = some o /\ ∀ v, o.data ≠ .cell v
 keep : ∀ i h h', tn i h -> (∀ b ∈ fp, ∀ o, h.get? b = some o -> h'.get? b = some o) -> tn i h'
 item : ∀ (X : Cx), X.prog = P -> X.w = w -> X.K = K -> X.calm = true -> ∀ (i : Nat) (pins : OP) (s : Shared) (σ : St) (H : Hp) (E : EV), Inv X pins σ H s -> (∀ b ∈ fp, uR X pins H b) -> tn i s.heap -> J.go i H ->
  wpAny (model P w) X.A (pyNext (.ref it)) (fun r s1 => ∃ u, r = some u /\
   wpAny (model P w) X.A (letOwnedTupleGo tg (.ref it) u) (fun _ s2 => ∃ x H', Inv X pins σ H' s2 /\ RelV x u /\ J.yld i H x H' /\ tn (i + 1) s2.heap /\ ∀ b ∈ fp, H' b = none) E s1) E s
 done : ∀ (X : Cx), X.prog = P -> X.w = w -> X.K = K -> X.calm = true -> ∀ (i : Nat) (pins : OP) (s : Shared) (σ : St) (H : Hp) (E : EV), Inv X pins σ H s -> (∀ b ∈ fp, uR X pins H b) -> tn i s.heap -> J.stop i H ->
  wpAny (model P w) X.A (pyNext (.ref it)) (fun r s1 => r = none /\ Inv X pins σ H s1) E s
 self : ∀ (A : Around) (i : Nat) (s : Shared) (Q : EV) (E : EV), tn i s.heap -> Q (.ref it) s -> wpAny (model P w) A (pyIter (.ref it)) Q E s
abbrev TI := St -> Hp -> (It -> Hp -> Prop) -> Prop
def PIE (X : Cx) (pins : OP) (σ : St) (tg : Expr) (R : It -> Hp -> Prop) (itv : Value) (s2 : Shared) : Prop :=
 ∃ (it : Addr) (fp : List Addr) (tn : Nat -> Heap -> Prop) (J : It) (H' : Hp), itv = .ref it /\ Inv X pins σ H' s2 /\ Turn X.prog X.w X.K tg J fp it tn /\ tn 0 s2.heap /\ (∀ b ∈ fp, uR X pins H' b) /\ R J H'
def PI (X : Cx) (tg iter : Expr) (wi : TI) : Prop :=
 ∀ (pins : OP) (s : Shared) (σ : St) (H : Hp) (R : It -> Hp -> Prop), Inv X pins σ H s -> wi σ H R ->
  wpAny (model X.prog X.w) X.A (eval iter X.env) (fun v s1 => wpAny (model X.prog X.w) X.A (pyIter v) (PIE X pins σ tg R) X.xe s1) X.xe s
theorem Ca {M : Model} {A : Around} {E : EV} {s : Shared} {tg : Expr} {it : Addr} {u : Value} {o : Obj} {n : String} {vs : Array Value} {Q : Unit -> Shared -> Prop} (ho : s.heap.get? it = some o) (hc : o.cls = .type n) (hd : o.data = .fields vs)
  (hn : ["enumerate", "zip", "dict_itemiterator", "dict_reverseitemiterator", "odict_iterator", "itertools.zip_longest", "itertools.pairwise"].contains n = false) (hQ : Q () s) : wpAny M A (letOwnedTupleGo tg (.ref it) u) Q E s := by
 unfold letOwnedTupleGo
 cases tg <;> first
  | exact wpAny_pure hQ
  | (cases u <;> first
    | exact wpAny_pure hQ
    | (refine wpAny_bind (wpAny_load ho ?_)
       rw [hc, hd]
       show wpAny M A (if (["enumerate", "zip", "dict_itemiterator", "dict_reverseitemiterator", "odict_iterator", "itertools.zip_longest", "itertools.pairwise"].contains n && vs[0]? == some (rawInt _)) = true then _ else _) Q E s
       rw [if_neg (by intro h; rw [hn, Bool.false_and] at h; cases h)]
       exact wpAny_pure hQ))
def Itl (K : Frag) (a : Addr) : It :=
 ⟨fun i H => ∃ xs x, SqL K H a xs /\ xs[i]? = some x, fun i H x H' => H' = H /\ ∀ xs, SqL K H a xs -> xs[i]? = some x, fun i H => ∃ xs, SqL K H a xs /\ xs.length <= i⟩
def Itt (K : Frag) (a : Addr) : It :=
 ⟨fun i H => ∃ xs x, SqT K H a xs /\ xs[i]? = some x, fun i H x H' => H' = H /\ ∀ xs, SqT K H a xs -> xs[i]? = some x, fun i H => ∃ xs, SqT K H a xs /\ xs.length <= i⟩
def Itr (lo : Int) (n : Nat) : It := ⟨fun i _ => i < n, fun i H x H' => H' = H /\ x = .int (lo + i), fun i _ => n <= i⟩
theorem Dm {P : Program} {w : World} {K : Frag} {tg : Expr} (a it : Addr) : Turn P w K tg (Itl K a) [it] it (fun i h => h.IsListIter it a i) where
 mem := by simp
 obj := fun i h st b hb => by
  have e : b = it := by simpa using hb
  subst e
  obtain ⟨o, e, c, d⟩ := st
  exact ⟨o, e, fun v z => by rw [d] at z; cases z⟩
 keep := fun i h h' st k => st.at fun o e => k it Z2 o e
 item := by
  intro X hP hw hK hc i pins s σ H E I hf st hg
  subst hP hw hK
  obtain ⟨xs, x, hq, hx⟩ := hg
  obtain ⟨its, rv, p, hz⟩ := I.list hq
  obtain ⟨u, hu, ru⟩ := rv.get hx
  obtain ⟨f0, f1, f2, f3, f4, f5⟩ := hf it Z2
  refine wpAny_pyNext_list_item st p.isList (x := u) (by simpa using hu) fun h' st' sb => ?_
  have I1 : Inv X pins σ H { s with heap := h' } := I.turned (t' := s.toks) (fun b o hb e => (sb.2 b hb).trans e) f0 f1 f3 f4 f5
  obtain ⟨o, e, c, d⟩ := id st'
  exact ⟨u, rfl, Ca (s := { s with heap := h' }) e c d Z0 ⟨x, H, I1, ru, ⟨rfl, fun ys hy => by rw [I.list_inj hy hq]; exact hx⟩, st', fun b hb => (hf b hb).1⟩⟩
 done := by
  intro X hP hw hK hc i pins s σ H E I hf st hg
  subst hP hw hK
  obtain ⟨xs, hq, hx⟩ := hg
  obtain ⟨its, rv, p, hz⟩ := I.list hq
  obtain ⟨f0, f1, f2, f3, f4, f5⟩ := hf it Z2
  have hl := rv.length
  exact wpAny_pyNext_list_end (I.ok.hd hc) st p.isList (by simp; omega) fun h' eb => ⟨rfl, I.turned (t' := s.toks) (fun b o hb e => eb b o hb e) f0 f1 f3 f4 f5⟩
 self := fun _ _ _ _ _ st h => wpAny_pyIter_listiter st h
theorem Aw {P : Program} {w : World} {K : Frag} {tg : Expr} (a it : Addr) : Turn P w K tg (Itt K a) [it] it (fun i h => h.IsTupleIter it a i) where
 mem := by simp
 obj := fun i h st b hb => by
  have e : b = it := by simpa using hb
  subst e
  obtain ⟨o, e, c, d⟩ := st
  exact ⟨o, e, fun v z => by rw [d] at z; cases z⟩
 keep := fun i h h' st k => st.at fun o e => k it Z2 o e
 item := by
  intro X hP hw hK hc i pins s σ H E I hf st hg
  subst hP hw hK
  obtain ⟨xs, x, hq, hx⟩ := hg
  obtain ⟨its, rv, p, hz⟩ := I.tuple hq
  obtain ⟨u, hu, ru⟩ := rv.get hx
  obtain ⟨f0, f1, f2, f3, f4, f5⟩ := hf it Z2
  refine wpAny_pyNext_tuple_item st (show s.heap.IsTuple a its.toArray from p) (x := u) (by simpa using hu) fun h' st' sb => ?_
  have I1 : Inv X pins σ H { s with heap := h' } := I.turned (t' := s.toks) (fun b o hb e => (sb.2 b hb).trans e) f0 f1 f3 f4 f5
  obtain ⟨o, e, c, d⟩ := id st'
  exact ⟨u, rfl, Ca (s := { s with heap := h' }) e c d Z0 ⟨x, H, I1, ru, ⟨rfl, fun ys hy => by rw [I.tuple_inj hy hq]; exact hx⟩, st', fun b hb => (hf b hb).1⟩⟩
 done := by
  intro X hP hw hK hc i pins s σ H E I hf st hg
  subst hP hw hK
  obtain ⟨xs, hq, hx⟩ := hg
  obtain ⟨its, rv, p, hz⟩ := I.tuple hq
  obtain ⟨f0, f1, f2, f3, f4, f5⟩ := hf it Z2
  have hl := rv.length
  exact wpAny_pyNext_tuple_end (I.ok.hd hc) st (show s.heap.IsTuple a its.toArray from p) (by simp; omega) fun h' eb => ⟨rfl, I.turned (t' := s.toks) (fun b o hb e => eb b o hb e) f0 f1 f3 f4 f5⟩
 self := fun _ _ _ _ _ st h => wpAny_pyIter_tupleiter st h
theorem zB {P : Program} {w : World} {K : Frag} {tg : Expr} (it : Addr) (lo : Int) (n : Nat) : Turn P w K tg (Itr lo n) [it] it (fun i h => IsRangeIter h it (lo + (i : Nat) * 1) ((n : Int) - (i : Nat)) 1) where
 mem := by simp
 obj := fun i h st b hb => by
  have e : b = it := by simpa using hb
  subst e
  exact ⟨_, st, fun v z => by
   have z' : Data.fields _ = Data.cell v := z
   cases z'⟩
 keep := fun i h h' st k => k it Z2 _ st
 item := by
  intro X hP hw hK hc i pins s σ H E I hf st hg
  subst hP hw hK
  obtain ⟨f0, f1, f2, f3, f4, f5⟩ := hf it Z2
  have W := Walks.range (prog := X.prog) (w := X.w) (I.ok.hd hc) it lo 1 n
  refine W.item i s _ _ hg st fun v h' tk hv st' kk => ?_
  obtain ⟨t, rfl⟩ := hv
  have I1 : Inv X pins σ H { s with heap := h', toks := tk } := I.turned (fun b o hb e => kk b o (by simpa using hb) e) f0 f1 f3 f4 f5
  refine ⟨_, rfl, Ca (s := { s with heap := h', toks := tk }) (n := "range_iterator") st' rfl rfl Z0 ⟨.int (lo + i), H, I1, ⟨t, ?_⟩, ⟨rfl, rfl⟩, st', fun b hb => (hf b hb).1⟩⟩
  rw [Int.mul_one]
 done := by
  intro X hP hw hK hc i pins s σ H E I hf st hg
  subst hP hw hK
  obtain ⟨f0, f1, f2, f3, f4, f5⟩ := hf it Z2
  exact wpAny_pyNext_range_end (I.ok.hd hc) st (by have : n <= i := hg; omega) fun h' eb => ⟨rfl, I.turned (t' := s.toks) (fun b o hb e => eb b o hb e) f0 f1 f3 f4 f5⟩
 self := fun _ _ _ _ _ st h => wpAny_pyIter_rangeiter st h
section
variable {X : Cx} {tg : Expr}
def Jc (K : Frag) (tl : TE) : TI := fun σ H R => tl σ H fun x H1 => ∃ a, x = .ref a /\ (∃ xs, SqL K H1 a xs) /\ R (Itl K a) H1
def O7 (K : Frag) (tl : TE) : TI := fun σ H R => tl σ H fun x H1 => ∃ a, x = .ref a /\ (∃ xs, SqT K H1 a xs) /\ R (Itt K a) H1
theorem bO {l : Expr} {tl : TE} (hl : PE X l tl) : PI X tg l (Jc X.K tl) := by
 intro pins s σ H R I h
 refine thn (hl pins s σ H _ I h) fun v s1 ⟨x, H1, I1, r1, q1⟩ => ?_
 obtain ⟨a, e, ⟨xs, hq⟩, q⟩ := q1
 subst e
 cases r1
 obtain ⟨its, rv, p, hz⟩ := I1.list hq
 refine wpAny_pyIter_list p.isList ?_
 refine ⟨s1.heap.objs.size, [s1.heap.objs.size], _, _, H1, rfl, I1.kept (t' := s1.toks) fun b o e => Heap.get?_push_of_some _ e, Dm a _, ⟨_, Heap.get?_push_size _ rfl, rfl, rfl⟩, fun b hb => ?_, q⟩
 have e : b = s1.heap.objs.size := by simpa using hb
 subst e
 exact I1.fpOk (le_refl _) (I1.hok.fresh (le_refl _))
theorem Ju {l : Expr} {tl : TE} (hl : PE X l tl) : PI X tg l (O7 X.K tl) := by
 intro pins s σ H R I h
 refine thn (hl pins s σ H _ I h) fun v s1 ⟨x, H1, I1, r1, q1⟩ => ?_
 obtain ⟨a, e, ⟨xs, hq⟩, q⟩ := q1
 subst e
 cases r1
 obtain ⟨its, rv, p, hz⟩ := I1.tuple hq
 refine wpAny_pyIter_tuple (show s1.heap.IsTuple a its.toArray from p) ?_
 refine ⟨s1.heap.objs.size, [s1.heap.objs.size], _, _, H1, rfl, I1.kept (t' := s1.toks) fun b o e => Heap.get?_push_of_some _ e, Aw a _, ⟨_, Heap.get?_push_size _ rfl, rfl, rfl⟩, fun b hb => ?_, q⟩
 have e : b = s1.heap.objs.size := by simpa using hb
 subst e
 exact I1.fpOk (le_refl _) (I1.hok.fresh (le_refl _))
theorem yu {pins : OP} {σ : St} {H : Hp} {s : Shared} {R : It -> Hp -> Prop} {E : EV} {lo hi : Int} {t u v : Tok} {tk : Nat} (I : Inv X pins σ H s) (h1 : -(2 ^ 62) <= lo) (h2 : lo < 2 ^ 62) (h3 : -(2 ^ 62) <= hi) (h4 : hi < 2 ^ 62)
  (q : R (Itr lo (hi - lo).toNat) H) : wpAny (model X.prog X.w) X.A (pyIter (.ref s.heap.objs.size)) (PIE X pins σ tg R) E { s with heap := s.heap.push { cls := .type "range", data := .fields #[.int lo t, .int hi u, .int 1 v] }, toks := tk } := by
 refine wpAny_pyIter_range (IsRange.new ..) (small_one h1 h2 h3 h4) ?_
 have I1 : Inv X pins σ H { s with heap := s.heap.push { cls := .type "range", data := .fields #[.int lo t, .int hi u, .int 1 v] }, toks := tk } := I.kept fun b o e => Heap.get?_push_of_some _ e
 refine ⟨(s.heap.push { cls := .type "range", data := .fields #[.int lo t, .int hi u, .int 1 v] }).objs.size, [(s.heap.push { cls := .type "range", data := .fields #[.int lo t, .int hi u, .int 1 v] }).objs.size], _, _, H, rfl,
  I1.kept (t' := tk) fun b o e => Heap.get?_push_of_some _ e, zB _ lo (hi - lo).toNat, ?_, fun b hb => ?_, q⟩
 ·have e1 : lo + ((0 : Nat) : Int) * 1 = lo := by simp
  have e2 : (((hi - lo).toNat : Nat) : Int) - ((0 : Nat) : Int) = Builtin.Range.rangeSize lo hi 1 := by rw [rangeSize_one]; split <;> omega
  show IsRangeIter _ _ (lo + ((0 : Nat) : Int) * 1) ((((hi - lo).toNat : Nat) : Int) - ((0 : Nat) : Int)) 1
  rw [e1, e2]
  exact Heap.get?_push_size _ rfl
 ·have e : b = (s.heap.push { cls := .type "range", data := .fields #[.int lo t, .int hi u, .int 1 v] }).objs.size := by simpa using hb
  subst e
  exact I1.fpOk (le_refl _) (I1.hok.fresh (le_refl _))
def Le (ta : TA) : TI := fun σ H R => ta σ H fun vs H1 => ∃ j : Int, vs = [.int j] /\ -(2 ^ 62) <= j /\ j < 2 ^ 62 /\ R (Itr 0 j.toNat) H1
def Mr (ta : TA) : TI := fun σ H R => ta σ H fun vs H1 => ∃ i j : Int, vs = [.int i, .int j] /\ (-(2 ^ 62) <= i /\ i < 2 ^ 62 /\ -(2 ^ 62) <= j /\ j < 2 ^ 62) /\ R (Itr i (j - i).toNat) H1
theorem gj {a : Expr} {ta : TA} {p pos : Pos} (hg : Gl X "range") (hm : X.mg "range" = none) (ha : PA X [a] ta) (hs : starEach [a] X.env = [(false, eval a X.env)] := by rfl) : PI X tg (.Call (.Name "range" p) [a] [] pos) (Le ta) := by
 intro pins s σ H R I h
 refine Call_ (qQ I hg hm boot_range (PyProof.Rows.callWith_type1 (thn (ha pos pins s σ H _ I h) fun us s1 ⟨vs, H1, I1, r1, q1⟩ => ?_) hs rfl))
 obtain ⟨j, e, q1, q2, q⟩ := q1
 subst e
 cases r1 with
 | cons r rr =>
  cases rr
  obtain ⟨t, rfl⟩ := r
  exact call_range_1 (yu I1 Z1 Z1 q1 q2 (by simpa using q))
theorem Dc {a b : Expr} {ta : TA} {p pos : Pos} (hg : Gl X "range") (hm : X.mg "range" = none) (ha : PA X [a, b] ta) (hs : starEach [a, b] X.env = [(false, eval a X.env), (false, eval b X.env)] := by rfl) (hs2 : starEach [b] X.env = [(false, eval b X.env)] := by rfl) :
  PI X tg (.Call (.Name "range" p) [a, b] [] pos) (Mr ta) := by
 intro pins s σ H R I h
 refine Call_ (qQ I hg hm boot_range (PyProof.Rows.callWith_type1 (thn (ha pos pins s σ H _ I h) fun us s1 ⟨vs, H1, I1, r1, q1⟩ => ?_) (by rw [hs, hs2]) (by rw [hs2]; rfl)))
 obtain ⟨i, j, e, ⟨q1, q2, q3, q4⟩, q⟩ := q1
 subst e
 cases r1 with
 | cons r rr =>
  cases rr with
  | cons r' rr =>
   cases rr
   obtain ⟨t, rfl⟩ := r
   obtain ⟨t', rfl⟩ := r'
   exact call_range_2 (yu I1 q1 q2 q3 q4 q)
def K7 (wi : TI) (g : TG) (tb : TS) : TS := fun D σ H => wi σ H fun J H1 => ∃ W : Nat -> Nat -> St -> Hp -> Prop, (∃ m, W 0 m σ H1) /\ ∀ i m σ H, W i m σ H ->
 (J.stop i H /\ D.nx σ H) \/ (J.go i H /\ ∃ N : St -> Hp -> Prop, (∀ σ' H', N σ' H' -> ∃ m', m' < m /\ W (i + 1) m' σ' H') /\ ∀ x H', J.yld i H x H' -> g x σ H' fun σ2 H2 => tb { D with nx := N, ct := N, bk := D.nx } σ2 H2)
def uL (fp : List Addr) (h : Heap) : OP := fp.filterMap fun b => (h.get? b).map fun o => (b, o)
theorem m9 {fp : List Addr} {h : Heap} {b : Addr} {o : Obj} (hb : b ∈ fp) (e : h.get? b = some o) : (b, o) ∈ uL fp h := List.mem_filterMap.mpr ⟨b, hb, by rw [e]; rfl⟩
theorem Dr {fp : List Addr} {h : Heap} {p : Addr × Obj} (hp : p ∈ uL fp h) : p.1 ∈ fp /\ h.get? p.1 = some p.2 := by
 obtain ⟨b, hb, e⟩ := List.mem_filterMap.mp hp
 cases q : h.get? b with
 | none => rw [q] at e; cases e
 | some o =>
  rw [q] at e
  have e' : (b, o) = p := Option.some.inj e
  subst e'
  exact ⟨hb, q⟩
theorem Inv.pinned {pins : OP} {σ : St} {H : Hp} {s : Shared} {fp : List Addr} (I : Inv X pins σ H s) (hf : ∀ b ∈ fp, uR X pins H b) (ho : ∀ b ∈ fp, ∃ o, s.heap.get? b = some o /\ ∀ v, o.data ≠ .cell v) : Inv X (pins ++ uL fp s.heap) σ H s :=
 I.pins_of fun p hp => (mem_append.mp hp).elim (fun z => I.pin p (mem_append_right _ z)) fun z => by
  obtain ⟨hb, e⟩ := Dr z
  obtain ⟨f0, f1, f2, _⟩ := hf p.1 hb
  obtain ⟨o, e', d⟩ := ho p.1 hb
  rw [e] at e'; cases e'
  exact ⟨e, f0, f1, f2, d⟩
theorem Inv.unpinned {pins pl : OP} {σ : St} {H : Hp} {s : Shared} (I : Inv X (pins ++ pl) σ H s) : Inv X pins σ H s := I.pins_of fun p hp => I.pin p (mem_append_right _ (mem_append_left _ hp))
theorem J1 {iter : Expr} {body : List Stmt} {wi : TI} {g : TG} {tb : TS} {pos : Pos} (hp : PassesOwn (model X.prog X.w) X.A X.env X.xe) (hc : X.calm = true) (hi : PI X tg iter wi) (hg : PG X tg g) (hb : PSs X body tb)
  (hs : ∀ x, foldedSetIterable iter X.env x = pure x := by intro _; rfl) : PS X (.For tg iter body [] pos) (K7 wi g tb) := by
 intro pins s σ H D I h
 refine wpAny_For (thn (hi pins s σ H _ I h) fun v s1 h1 => thn h1 fun itv s2 h2 => ?_) hs
 obtain ⟨it, fp, tn, J, H2, e, I2, T, st2, f2, W, ⟨m0, w0⟩, turn⟩ := h2
 subst e
 have stat : ∀ {H' : Hp}, (∀ b ∈ fp, H' b = none) -> ∀ b ∈ fp, uR X pins H' b := fun hn b hb => ⟨hn b hb, (f2 b hb).2⟩
 refine codeAny_forLoop_any (fun n s' => ∃ i σ' H', Inv X pins σ' H' s' /\ tn i s'.heap /\ (∀ b ∈ fp, H' b = none) /\ W i n σ' H') ?_ m0 ⟨0, σ, H2, I2, st2, fun b hb => (f2 b hb).1, w0⟩
 rintro n s3 ⟨i, σ3, H3, I3, st3, fr3, w3⟩
 rcases turn i n σ3 H3 w3 with ⟨stop, qn⟩ | ⟨go, N, hN, step⟩
 ·refine wpAny_passesOwn hp (thn (T.done X rfl rfl rfl hc i pins s3 σ3 H3 X.xe I3 (stat fr3) st3 stop) fun r s4 ⟨hr, I4⟩ => ?_)
  subst hr
  exact wpAny_execs_nil ⟨σ3, H3, I4, qn⟩
 ·refine wpAny_passesOwn hp (thn (T.item X rfl rfl rfl hc i pins s3 σ3 H3 X.xe I3 (stat fr3) st3 go) fun r s4 ⟨u, hr, h4⟩ => ?_)
  subst hr
  refine wpAny_passesOwn hp (thn h4 fun _ s5 ⟨x, H5, I5, r5, y5, st5, fr5⟩ => ?_)
  have I5' := I5.pinned (stat fr5) (T.obj _ _ st5)
  refine wpAny_passesOwn hp (thn (hg _ s5 σ3 H5 x u _ I5' r5 (step x H5 y5)) fun _ s6 ⟨σ6, H6, I6, q6⟩ => ?_)
  refine wpAny_passesOwn hp (thn (hb _ s6 σ6 H6 _ I6 q6) fun f s7 q7 => ?_)
  have again : ∀ {σ7 : St} {H7 : Hp}, Inv X (pins ++ uL fp s5.heap) σ7 H7 s7 -> N σ7 H7 -> ∃ m, m < n /\ ∃ i σ' H', Inv X pins σ' H' s7 /\ tn i s7.heap /\ (∀ b ∈ fp, H' b = none) /\ W i m σ' H' := fun {σ7 H7} I7 n7 => by
   obtain ⟨m', hm, w7⟩ := hN σ7 H7 n7
   refine ⟨m', hm, i + 1, σ7, H7, I7.unpinned, T.keep _ _ _ st5 fun b hb o e => (I7.pin (b, o) (mem_append_right _ (mem_append_right _ (m9 hb e)))).1, fun b hb => ?_, w7⟩
   obtain ⟨o, e, d⟩ := T.obj _ _ st5 b hb
   exact (I7.pin (b, o) (mem_append_right _ (mem_append_right _ (m9 hb e)))).2.1
  cases f with
  | next => obtain ⟨σ7, H7, I7, n7⟩ := q7; exact again I7 n7
  | cont => obtain ⟨σ7, H7, I7, n7⟩ := q7; exact again I7 n7
  | brk => obtain ⟨σ7, H7, I7, q7⟩ := q7; exact ⟨σ7, H7, I7.unpinned, q7⟩
  | ret v => obtain ⟨x7, σ7, H7, I7, r7, q7⟩ := q7; exact ⟨x7, σ7, H7, I7.unpinned, r7, q7⟩
end
theorem cY {K : Frag} {a : Addr} {xs : List V} {g : TG} {tb : TS} {D : Ends} {σ : St} {H : Hp} (Pv : Nat -> St -> Hp -> Prop) (h0 : Pv 0 σ H) (hl : ∀ i σ H, i <= xs.length -> Pv i σ H -> SqL K H a xs)
  (hs : ∀ i x σ H, xs[i]? = some x -> Pv i σ H -> g x σ H fun σ2 H2 => tb { D with nx := Pv (i + 1), ct := Pv (i + 1), bk := D.nx } σ2 H2) (hd : ∀ σ H, Pv xs.length σ H -> D.nx σ H) :
  ∃ W : Nat -> Nat -> St -> Hp -> Prop, (∃ m, W 0 m σ H) /\ ∀ i m σ H, W i m σ H ->
   ((Itl K a).stop i H /\ D.nx σ H) \/ ((Itl K a).go i H /\ ∃ N : St -> Hp -> Prop, (∀ σ' H', N σ' H' -> ∃ m', m' < m /\ W (i + 1) m' σ' H') /\ ∀ x H', (Itl K a).yld i H x H' -> g x σ H' fun σ2 H2 => tb { D with nx := N, ct := N, bk := D.nx } σ2 H2) := by
 refine ⟨fun i m σ H => m = xs.length - i /\ i <= xs.length /\ Pv i σ H, ⟨xs.length, Z2, zero_le _, h0⟩, ?_⟩
 rintro i m σ H ⟨rfl, hi, p⟩
 have q := hl i σ H hi p
 by_cases hlt : i < xs.length
 ·refine .inr ⟨⟨xs, xs[i], q, by simp [hlt]⟩, Pv (i + 1), fun σ' H' p' => ⟨xs.length - (i + 1), Z1, rfl, hlt, p'⟩, fun x H' y => ?_⟩
  obtain ⟨e, y⟩ := y
  subst e
  exact hs i x σ _ (y xs q) p
 ·have e : i = xs.length := by omega
  subst e
  exact .inl ⟨⟨xs, q, le_refl _⟩, hd σ H p⟩
theorem Hu {K : Frag} {a : Addr} {xs : List V} {g : TG} {tb : TS} {D : Ends} {σ : St} {H : Hp} (Pv : Nat -> St -> Hp -> Prop) (h0 : Pv 0 σ H) (hl : ∀ i σ H, i <= xs.length -> Pv i σ H -> SqT K H a xs)
  (hs : ∀ i x σ H, xs[i]? = some x -> Pv i σ H -> g x σ H fun σ2 H2 => tb { D with nx := Pv (i + 1), ct := Pv (i + 1), bk := D.nx } σ2 H2) (hd : ∀ σ H, Pv xs.length σ H -> D.nx σ H) :
  ∃ W : Nat -> Nat -> St -> Hp -> Prop, (∃ m, W 0 m σ H) /\ ∀ i m σ H, W i m σ H ->
   ((Itt K a).stop i H /\ D.nx σ H) \/ ((Itt K a).go i H /\ ∃ N : St -> Hp -> Prop, (∀ σ' H', N σ' H' -> ∃ m', m' < m /\ W (i + 1) m' σ' H') /\ ∀ x H', (Itt K a).yld i H x H' -> g x σ H' fun σ2 H2 => tb { D with nx := N, ct := N, bk := D.nx } σ2 H2) := by
 refine ⟨fun i m σ H => m = xs.length - i /\ i <= xs.length /\ Pv i σ H, ⟨xs.length, Z2, zero_le _, h0⟩, ?_⟩
 rintro i m σ H ⟨rfl, hi, p⟩
 have q := hl i σ H hi p
 by_cases hlt : i < xs.length
 ·refine .inr ⟨⟨xs, xs[i], q, by simp [hlt]⟩, Pv (i + 1), fun σ' H' p' => ⟨xs.length - (i + 1), Z1, rfl, hlt, p'⟩, fun x H' y => ?_⟩
  obtain ⟨e, y⟩ := y
  subst e
  exact hs i x σ _ (y xs q) p
 ·have e : i = xs.length := by omega
  subst e
  exact .inl ⟨⟨xs, q, le_refl _⟩, hd σ H p⟩
theorem n8 {lo : Int} {n : Nat} {g : TG} {tb : TS} {D : Ends} {σ : St} {H : Hp} (Pv : Nat -> St -> Hp -> Prop) (h0 : Pv 0 σ H)
  (hs : ∀ i σ H, i < n -> Pv i σ H -> g (.int (lo + i)) σ H fun σ2 H2 => tb { D with nx := Pv (i + 1), ct := Pv (i + 1), bk := D.nx } σ2 H2) (hd : ∀ σ H, Pv n σ H -> D.nx σ H) :
  ∃ W : Nat -> Nat -> St -> Hp -> Prop, (∃ m, W 0 m σ H) /\ ∀ i m σ H, W i m σ H ->
   ((Itr lo n).stop i H /\ D.nx σ H) \/ ((Itr lo n).go i H /\ ∃ N : St -> Hp -> Prop, (∀ σ' H', N σ' H' -> ∃ m', m' < m /\ W (i + 1) m' σ' H') /\ ∀ x H', (Itr lo n).yld i H x H' -> g x σ H' fun σ2 H2 => tb { D with nx := N, ct := N, bk := D.nx } σ2 H2) := by
 refine ⟨fun i m σ H => m = n - i /\ i <= n /\ Pv i σ H, ⟨n, Z2, zero_le _, h0⟩, ?_⟩
 rintro i m σ H ⟨rfl, hi, p⟩
 by_cases hlt : i < n
 ·refine .inr ⟨hlt, Pv (i + 1), fun σ' H' p' => ⟨n - (i + 1), Z1, rfl, hlt, p'⟩, fun x H' y => ?_⟩
  obtain ⟨e, y⟩ := y
  subst e y
  exact hs i σ _ hlt p
 ·have e : i = n := by omega
  subst e
  exact .inl ⟨le_refl _, hd σ H p⟩
abbrev R2 := V -> V -> Hp -> VK -> Prop
def OpR (X : Cx) (f : Value -> Value -> Sem Value) (r : R2) : Prop :=
 ∀ (pins : OP) (s : Shared) (σ : St) (H : Hp) (x y : V) (v u : Value) (Q : VK), Inv X pins σ H s -> RelV x v -> RelV y u -> r x y H Q ->
  wpAny (model X.prog X.w) X.A (f v u) (EP X pins σ Q) X.xe s
def UnR (X : Cx) (f : Value -> Sem Value) (r : V -> Hp -> VK -> Prop) : Prop :=
 ∀ (pins : OP) (s : Shared) (σ : St) (H : Hp) (x : V) (v : Value) (Q : VK), Inv X pins σ H s -> RelV x v -> r x H Q ->
  wpAny (model X.prog X.w) X.A (f v) (EP X pins σ Q) X.xe s
def jg (X : Cx) (f : Value) (r : List V -> Hp -> VK -> Prop) : Prop :=
 ∀ (pins : OP) (s : Shared) (σ : St) (H : Hp) (xs : List V) (us : List Value) (Q : VK), Inv X pins σ H s -> Vals xs us -> r xs H Q ->
  wpAny (model X.prog X.w) X.A (call f us) (EP X pins σ Q) X.xe s
def tOp (r : R2) (ta tb : TE) : TE := fun σ H Q => ta σ H fun x H1 => tb σ H1 fun y H2 => r x y H2 Q
def tUn (r : V -> Hp -> VK -> Prop) (ta : TE) : TE := fun σ H Q => ta σ H fun x H1 => r x H1 Q
def rI (C : Int -> Int -> Prop) (g : Int -> Int -> V) : R2 := fun x y H Q => ∃ i j, x = .int i /\ y = .int j /\ C i j /\ Q (g i j) H
def rI0 (g : Int -> Int -> V) : R2 := fun x y H Q => ∃ i j, x = .int i /\ y = .int j /\ Q (g i j) H
def rU (g : Int -> V) : V -> Hp -> VK -> Prop := fun x H Q => ∃ i, x = .int i /\ Q (g i) H
section
variable {X : Cx} {a b c : Expr} {ta tb tc : TE} {pos : Pos}
theorem J0 (ha : PE X a ta) (hb : PE X b tb) {pins : OP} {s : Shared} {σ : St} {H : Hp} {R : V -> V -> Hp -> Prop} (I : Inv X pins σ H s)
  (h : ta σ H fun x H1 => tb σ H1 fun y H2 => R x y H2) {Q : EV} {f : Value -> Value -> Sem Value}
  (hf : ∀ v u s2 x y H2, Inv X pins σ H2 s2 -> RelV x v -> RelV y u -> R x y H2 -> wpAny (model X.prog X.w) X.A (f v u) Q X.xe s2) :
  wpAny (model X.prog X.w) X.A (eval a X.env) (fun v s₁ => wpAny (model X.prog X.w) X.A (eval b X.env) (fun u s₂ => wpAny (model X.prog X.w) X.A (f v u) Q X.xe s₂) X.xe s₁) X.xe s := by
 refine thn (ha pins s σ H _ I h) fun v s1 ⟨x, H1, I1, r1, q1⟩ => ?_
 refine thn (hb pins s1 σ H1 _ I1 q1) fun u s2 ⟨y, H2, I2, r2, q2⟩ => ?_
 exact hf v u s2 x y H2 I2 r1 r2 q2
theorem aP {op : Operator} {r : R2} (ho : OpR X (binaryOp op) r) (ha : PE X a ta) (hb : PE X b tb) : PE X (.BinOp a op b pos) (tOp r ta tb) := by
 intro pins s σ H Q I h
 exact wpAny_BinOp (J0 ha hb I h fun v u s2 x y H2 I2 rx ry q => ho pins s2 σ H2 x y v u Q I2 rx ry q)
theorem By {op : UnaryOp} {r : V -> Hp -> VK -> Prop} (ho : UnR X (unaryOp op) r) (ha : PE X a ta) : PE X (.UnaryOp op a pos) (tUn r ta) := by
 intro pins s σ H Q I h
 exact UnaryOp_ (thn (ha pins s σ H _ I h) fun v s1 ⟨x, H1, I1, r1, q1⟩ => ho pins s1 σ H1 x v Q I1 r1 q1)
theorem opI {f : Value -> Value -> Sem Value} {C : Int -> Int -> Prop} {g : Int -> Int -> Int}
  (rule : ∀ (i j : Int) (t u : Tok) (s : Shared) (Q : EV) (E : EV), C i j -> Q (.int (g i j) s.toks) { s with toks := s.toks + 1 } -> wpAny (model X.prog X.w) X.A (f (.int i t) (.int j u)) Q E s) :
  OpR X f (rI C fun i j => .int (g i j)) := by
 intro pins s σ H x y v u Q I rx ry h
 obtain ⟨i, j, rfl, rfl, hc, q⟩ := h
 obtain ⟨t, rfl⟩ := rx
 obtain ⟨t', rfl⟩ := ry
 exact rule i j t t' s _ _ hc ⟨.int (g i j), H, I.tok _, ⟨_, rfl⟩, q⟩
theorem HH {f : Value -> Value -> Sem Value} {g : Int -> Int -> Int}
  (rule : ∀ (i j : Int) (t u : Tok) (s : Shared) (Q : EV) (E : EV), Q (.int (g i j) s.toks) { s with toks := s.toks + 1 } -> wpAny (model X.prog X.w) X.A (f (.int i t) (.int j u)) Q E s) :
  OpR X f (rI0 fun i j => .int (g i j)) := by
 intro pins s σ H x y v u Q I rx ry h
 obtain ⟨i, j, rfl, rfl, q⟩ := h
 obtain ⟨t, rfl⟩ := rx
 obtain ⟨t', rfl⟩ := ry
 exact rule i j t t' s _ _ ⟨.int (g i j), H, I.tok _, ⟨_, rfl⟩, q⟩
theorem Kf {f : Value -> Value -> Sem Value} {g : Int -> Int -> Bool}
  (rule : ∀ (i j : Int) (t u : Tok) (s : Shared) (Q : EV) (E : EV), Q (.bool (g i j)) s -> wpAny (model X.prog X.w) X.A (f (.int i t) (.int j u)) Q E s) :
  OpR X f (rI0 fun i j => .bl (g i j)) := by
 intro pins s σ H x y v u Q I rx ry h
 obtain ⟨i, j, rfl, rfl, q⟩ := h
 obtain ⟨t, rfl⟩ := rx
 obtain ⟨t', rfl⟩ := ry
 exact rule i j t t' s _ _ ⟨.bl (g i j), H, I, rfl, q⟩
def JL (i j : Int) : Prop := 0 < j /\ j < 1073741824
def Lk (i j : Int) : Prop := 0 <= j /\ j <= 1000000 /\ i.natAbs < 2 ^ 64
def DW (i j : Int) : Prop := (-(2 ^ 64) < i /\ i < 2 ^ 64) \/ (-(2 ^ 64) < j /\ j < 2 ^ 64)
theorem DW.ok {i j : Int} (h : DW i j) : IntMulOk i j := by
 rcases h with ⟨h1, h2⟩ | ⟨h1, h2⟩
 ·exact .of_left (intBits_le_64 h1 h2)
 ·exact .of_right (intBits_le_64 h1 h2)
theorem zR (k : Nat) : (0 : Int) <= 2 ^ k := by
 rw [two_pow_cast]
 exact Int.natCast_nonneg _
theorem cI : OpR X (binaryOp .Add) (rI0 fun i j => .int (i + j)) := HH fun _ _ _ _ _ _ _ q => add_int q
theorem pD : OpR X (binaryOp .Sub) (rI0 fun i j => .int (i - j)) := HH fun _ _ _ _ _ _ _ q => sub_int q
theorem fM : OpR X (binaryOp .Mult) (rI DW fun i j => .int (i * j)) := opI fun _ _ _ _ _ _ _ hc q => mul_int q hc.ok
theorem kI : OpR X (binaryOp .FloorDiv) (rI JL fun i j => .int (i / j)) := opI fun i j _ _ _ _ _ hc q => by
 have h1 : (0 : Int) < j := hc.1
 have h2 : j < 1073741824 := hc.2
 exact floordiv_int Z1 (by rw [Int.fdiv_eq_ediv_of_nonneg i Z1]; exact q) (.inl (PyProof.noPylong_small Z1))
theorem fL : OpR X (binaryOp .Mod) (rI (fun _ j => 0 < j) fun i j => .int (i % j)) := opI fun i j _ _ _ _ _ hc q => by
 have h1 : (0 : Int) < j := hc
 exact mod_int' Z1 (by rw [Int.fmod_eq_emod_of_nonneg i Z1]; exact q)
theorem JH : OpR X (binaryOp .Pow) (rI Lk fun i j => .int (i ^ j.toNat)) := opI fun _ _ _ _ _ _ _ hc q => pow_int_small hc.1 hc.2.1 hc.2.2 q
theorem JT : OpR X (binaryOp .LShift) (rI Lk fun i j => .int (i * 2 ^ j.toNat)) := opI fun _ _ _ _ _ _ _ hc q => lshift_int_small hc.1 hc.2.1 hc.2.2 q
theorem qR : OpR X (binaryOp .RShift) (rI (fun _ j => 0 <= j) fun i j => .int (i / 2 ^ j.toNat)) := opI fun i j _ _ _ _ _ hc q =>
 rshift_int hc (by rw [Int.fdiv_eq_ediv_of_nonneg i (zR _)]; exact q)
theorem Gh : OpR X (binaryOp .BitAnd) (rI0 fun i j => .int (Builtin.bitAnd i j)) := HH fun _ _ _ _ _ _ _ q => and_int q
theorem FP : OpR X (binaryOp .BitOr) (rI0 fun i j => .int (Builtin.bitOr i j)) := HH fun _ _ _ _ _ _ _ q => or_int q
theorem unI {f : Value -> Sem Value} {g : Int -> Int}
  (rule : ∀ (i : Int) (t : Tok) (s : Shared) (Q : EV) (E : EV), Q (.int (g i) s.toks) { s with toks := s.toks + 1 } -> wpAny (model X.prog X.w) X.A (f (.int i t)) Q E s) :
  UnR X f (rU fun i => .int (g i)) := by
 intro pins s σ H x v Q I rx h
 obtain ⟨i, rfl, q⟩ := h
 obtain ⟨t, rfl⟩ := rx
 exact rule i t s _ _ ⟨.int (g i), H, I.tok _, ⟨_, rfl⟩, q⟩
theorem vW : UnR X (unaryOp .USub) (rU fun i => .int (-i)) := unI fun _ _ _ _ _ q => neg_int q
end
def Mt : V -> V -> Bool
 | .non, .non => true | .non, .int _ => true | .int _, .non => true | .non, .bl _ => true | .bl _, .non => true | .non, .str _ => true | .str _, .non => true
 | .int _, .int _ => true | .bl _, .bl _ => true | .str _, .str _ => true | .byt _, .byt _ => true
 | .int _, .str _ => true | .str _, .int _ => true | .bl _, .str _ => true | .str _, .bl _ => true
 | _, _ => false
def rEq : R2 := fun x y H Q => Mt x y = true /\ Q (.bl (decide (x = y))) H
def rNe : R2 := fun x y H Q => Mt x y = true /\ Q (.bl (!decide (x = y))) H
theorem BJ {i j : Int} : decide (V.int i = V.int j) = (i == j) := by
 rw [Bool.eq_iff_iff]
 simp
theorem Ex {i j : Bool} : decide (V.bl i = V.bl j) = (i == j) := by
 rw [Bool.eq_iff_iff]
 simp
theorem Bl {i j : Str} : decide (V.str i = V.str j) = (i == j) := by
 rw [Bool.eq_iff_iff]
 simp
theorem BP {i j : Array UInt8} : decide (V.byt i = V.byt j) = (i.toList == j.toList) := by
 rw [Bool.eq_iff_iff]
 cases i
 cases j
 simp
section
variable {X : Cx} {a b c : Expr} {ta tb tc : TE} {pos : Pos}
theorem bI {pins : OP} {σ : St} {H : Hp} {s : Shared} {Q : VK} {k k' : Bool} (I : Inv X pins σ H s) (q : Q (.bl k) H) (e : k = k') : EP X pins σ Q (.bool k') s := by
 subst e
 exact ⟨.bl k, H, I, rfl, q⟩
theorem cN : OpR X (compareOp .Eq) rEq := by
 intro pins s σ H x y v u Q I rx ry h
 obtain ⟨hs, q⟩ := h
 cases x with
 | non =>
  cases rx
  cases y with
  | non => cases ry; exact PySem.EqNone.eq_none_none (bI I q Z2)
  | bl j => cases ry; exact PySem.EqNone.eq_none_bool (bI I q Z2)
  | int j => obtain ⟨t', rfl⟩ := ry; exact PySem.EqNone.eq_none_int (bI I q Z2)
  | str j => obtain ⟨t', rfl⟩ := ry; exact PySem.EqNone.eq_none_str (bI I q Z2)
  | _ => exact absurd (show false = true from hs) Bool.false_ne_true
 | bl i =>
  cases rx
  cases y with
  | non => cases ry; exact PySem.EqNone.eq_bool_none (bI I q Z2)
  | bl j => cases ry; exact eq_bool (bI I q Ex)
  | str j => obtain ⟨t', rfl⟩ := ry; exact PySem.EqMixed.eq_bool_str (bI I q Z2)
  | _ => exact absurd (show false = true from hs) Bool.false_ne_true
 | int i =>
  obtain ⟨t, rfl⟩ := rx
  cases y with
  | non => cases ry; exact PySem.EqNone.eq_int_none (bI I q Z2)
  | int j => obtain ⟨t', rfl⟩ := ry; exact eq_int (bI I q BJ)
  | str j => obtain ⟨t', rfl⟩ := ry; exact PySem.EqMixed.eq_int_str (bI I q Z2)
  | _ => exact absurd (show false = true from hs) Bool.false_ne_true
 | str i =>
  obtain ⟨t, rfl⟩ := rx
  cases y with
  | non => cases ry; exact PySem.EqNone.eq_str_none (bI I q Z2)
  | bl j => cases ry; exact PySem.EqMixed.eq_str_bool (bI I q Z2)
  | int j => obtain ⟨t', rfl⟩ := ry; exact PySem.EqMixed.eq_str_int (bI I q Z2)
  | str j => obtain ⟨t', rfl⟩ := ry; exact eq_str (bI I q Bl)
  | _ => exact absurd (show false = true from hs) Bool.false_ne_true
 | byt i =>
  obtain ⟨t, rfl⟩ := rx
  cases y with
  | byt j => obtain ⟨t', rfl⟩ := ry; exact PySem.W.eq_bytes (bI I q BP)
  | _ => exact absurd (show false = true from hs) Bool.false_ne_true
 | _ => cases y <;> exact absurd (show false = true from hs) Bool.false_ne_true
theorem km : OpR X (compareOp .NotEq) rNe := by
 intro pins s σ H x y v u Q I rx ry h
 obtain ⟨hs, q⟩ := h
 cases x with
 | non =>
  cases rx
  cases y with
  | non => cases ry; exact PySem.EqNone.ne_none_none (bI I q Z2)
  | bl j => cases ry; exact PySem.EqNone.ne_none_bool (bI I q Z2)
  | int j => obtain ⟨t', rfl⟩ := ry; exact PySem.EqNone.ne_none_int (bI I q Z2)
  | str j => obtain ⟨t', rfl⟩ := ry; exact PySem.EqNone.ne_none_str (bI I q Z2)
  | _ => exact absurd (show false = true from hs) Bool.false_ne_true
 | bl i =>
  cases rx
  cases y with
  | non => cases ry; exact PySem.EqNone.ne_bool_none (bI I q Z2)
  | bl j => cases ry; exact ne_bool (bI I q (congrArg not Ex))
  | str j => obtain ⟨t', rfl⟩ := ry; exact PySem.EqMixed.ne_bool_str (bI I q Z2)
  | _ => exact absurd (show false = true from hs) Bool.false_ne_true
 | int i =>
  obtain ⟨t, rfl⟩ := rx
  cases y with
  | non => cases ry; exact PySem.EqNone.ne_int_none (bI I q Z2)
  | int j => obtain ⟨t', rfl⟩ := ry; exact ne_int (bI I q (congrArg not BJ))
  | str j => obtain ⟨t', rfl⟩ := ry; exact PySem.EqMixed.ne_int_str (bI I q Z2)
  | _ => exact absurd (show false = true from hs) Bool.false_ne_true
 | str i =>
  obtain ⟨t, rfl⟩ := rx
  cases y with
  | non => cases ry; exact PySem.EqNone.ne_str_none (bI I q Z2)
  | bl j => cases ry; exact PySem.EqMixed.ne_str_bool (bI I q Z2)
  | int j => obtain ⟨t', rfl⟩ := ry; exact PySem.EqMixed.ne_str_int (bI I q Z2)
  | str j => obtain ⟨t', rfl⟩ := ry; exact ne_str (bI I q (congrArg not Bl))
  | _ => exact absurd (show false = true from hs) Bool.false_ne_true
 | byt i =>
  obtain ⟨t, rfl⟩ := rx
  cases y with
  | byt j => obtain ⟨t', rfl⟩ := ry; exact PySem.W.ne_bytes (bI I q (congrArg not BP))
  | _ => exact absurd (show false = true from hs) Bool.false_ne_true
 | _ => cases y <;> exact absurd (show false = true from hs) Bool.false_ne_true
theorem FJ : OpR X (compareOp .Lt) (rI0 fun i j => .bl (decide (i < j))) := Kf fun _ _ _ _ _ _ _ q => lt_int q
theorem tX : OpR X (compareOp .Gt) (rI0 fun i j => .bl (decide (j < i))) := Kf fun _ _ _ _ _ _ _ q => gt_int q
theorem Ml : OpR X (compareOp .GtE) (rI0 fun i j => .bl (decide (j <= i))) := Kf fun _ _ _ _ _ _ _ q => ge_int q
theorem aN (b : Expr) {op : CmpOp} (h : op ≠ .In := by decide) (h2 : op ≠ .NotIn := by decide) : behindInMarks op b = false := by
 have e1 : (op == CmpOp.In) = false := by cases op <;> first | rfl | exact absurd rfl h
 have e2 : (op == CmpOp.NotIn) = false := by cases op <;> first | rfl | exact absurd rfl h2
 cases b <;> simp [behindInMarks, e1, e2]
theorem iI {op : CmpOp} {r : R2} (ho : OpR X (compareOp op) r) (ha : PE X a ta) (hb : PE X b tb) (hm : behindInMarks op b = false) : PE X (.Compare a [op] [b] pos) (tOp r ta tb) := by
 intro pins s σ H Q I h
 exact wpAny_Compare1 (J0 ha hb I h fun v u s2 x y H2 I2 rx ry q => ho pins s2 σ H2 x y v u Q I2 rx ry q) hm
def K4 (t : TE) : TT := fun σ H Q => t σ H fun x H' => ∃ k, x = .bl k /\ Q k H'
theorem aK {op : CmpOp} {r : R2} (ho : OpR X (compareOp op) r) (ha : PE X a ta) (hb : PE X b tb) (hm : behindInMarks op b = false) : PT X (.Compare a [op] [b] pos) (K4 (tOp r ta tb)) := by
 intro pins s σ H Q I h
 refine wpAny_isTrue_Compare1 (thn (ha pins s σ H _ I h) fun v s1 ⟨x, H1, I1, r1, q1⟩ => thn (hb pins s1 σ H1 _ I1 q1) fun u s2 ⟨y, H2, I2, r2, q2⟩ =>
  thn (ho pins s2 σ H2 x y v u _ I2 r1 r2 q2) fun c s3 ⟨z, H3, I3, r3, k, e, q3⟩ => ?_) hm
 subst e
 cases r3
 exact wpAny_truthy_bool ⟨H3, I3, q3⟩
theorem ur : (sizeLine : Nat) < 2 ^ 63 := by rw [sizeLine_eq]; decide
theorem pM : OpR X (binaryOp .Add) (fun x y H Q => ∃ i j, x = .str i /\ y = .str j /\ i.length + j.length <= sizeLine /\ Q (.str (i ++ j)) H) := by
 intro pins s σ H x y v u Q I rx ry h
 obtain ⟨i, j, rfl, rfl, hz, q⟩ := h
 obtain ⟨t, rfl⟩ := rx
 obtain ⟨t', rfl⟩ := ry
 exact add_str (fun t' tk => ⟨.str (i ++ j), H, I.tok _, ⟨_, rfl⟩, q⟩) hz
theorem vals1 {x : V} {us : List Value} (r : Vals [x] us) : ∃ u, us = [u] /\ RelV x u := by
 cases r with
 | cons r1 r2 => cases r2; exact ⟨_, rfl, r1⟩
theorem vals2 {x y : V} {us : List Value} (r : Vals [x, y] us) : ∃ u w', us = [u, w'] /\ RelV x u /\ RelV y w' := by
 cases r with
 | cons r1 r2 =>
  cases r2 with
  | cons r3 r4 => cases r4; exact ⟨_, _, rfl, r1, r3⟩
theorem CG (hc : X.calm = true) : jg X (.builtin "max") (fun xs H Q => ∃ i j, xs = [.int i, .int j] /\ Q (.int (if j > i then j else i)) H) := by
 intro pins s σ H xs us Q I r h
 obtain ⟨i, j, rfl, q⟩ := h
 obtain ⟨u, w', rfl, ⟨t, rfl⟩, ⟨t', rfl⟩⟩ := vals2 r
 refine max_two_ints (I.ok.hd hc) fun h' tk k => ⟨_, H, I.kept k, ?_, q⟩
 by_cases hj : j > i
 ·rw [if_pos hj, if_pos hj]; exact ⟨_, rfl⟩
 ·rw [if_neg hj, if_neg hj]; exact ⟨_, rfl⟩
theorem CN (hc : X.calm = true) : jg X (.builtin "min") (fun xs H Q => ∃ i j, xs = [.int i, .int j] /\ Q (.int (if j < i then j else i)) H) := by
 intro pins s σ H xs us Q I r h
 obtain ⟨i, j, rfl, q⟩ := h
 obtain ⟨u, w', rfl, ⟨t, rfl⟩, ⟨t', rfl⟩⟩ := vals2 r
 refine min_two_ints (I.ok.hd hc) fun h' tk k => ⟨_, H, I.kept k, ?_, q⟩
 by_cases hj : j < i
 ·rw [if_pos hj, if_pos hj]; exact ⟨_, rfl⟩
 ·rw [if_neg hj, if_neg hj]; exact ⟨_, rfl⟩
theorem Dq : jg X (.type "int") (fun xs H Q => (∃ i, xs = [.int i] /\ Q (.int i) H) \/ ∃ k, xs = [.bl k] /\ Q (.int (if k then 1 else 0)) H) := by
 intro pins s σ H xs us Q I r h
 rcases h with ⟨i, rfl, q⟩ | ⟨k, rfl, q⟩
 ·obtain ⟨u, rfl, t, rfl⟩ := vals1 r
  exact call_int_int ⟨.int i, H, I, ⟨_, rfl⟩, q⟩
 ·obtain ⟨u, rfl, r1⟩ := vals1 r
  cases r1
  exact call_int_bool ⟨.int (if k then 1 else 0), H, I.tok _, ⟨_, rfl⟩, q⟩
theorem xP : jg X (.type "str") (fun xs H Q => ∃ i, xs = [.int i] /\ i.natAbs.log2 < 1920 /\ Q (.str (toString i)) H) := by
 intro pins s σ H xs us Q I r h
 obtain ⟨i, rfl, hz, q⟩ := h
 obtain ⟨u, rfl, t, rfl⟩ := vals1 r
 exact PySem.P.str_of_int hz ⟨.str _, H, I.tok _, ⟨_, rfl⟩, q⟩
end
structure zF (h : Heap) (x dx C : Addr) (mA : MG) : Prop where
 obj : h.get? x = some (instObj C dx)
 ns : h.Ns1 dx mA
 ne : dx ≠ x
theorem Dd {h : Heap} {dx : Addr} {mA : MG} (n : h.Ns1 dx mA) : ∃ od, h.get? dx = some od /\ ∀ name, lookIn name od = some (mA name) := by
 obtain ⟨o, es, ep, ho, hd, hk, _, hm⟩ := n
 refine ⟨o, ho, fun name => ?_⟩
 have e := hm name
 unfold nsFind findBy at e
 rw [<- Array.find?_toList] at e
 unfold lookIn
 rw [hd]
 dsimp only
 split
 ·rename_i y q
  rw [q] at e
  exact congrArg some e
 ·rename_i q
  rw [q] at e
  have a : es.toList.any (·.refKey) = false := by
   rw [List.any_eq_false]
   intro y hy
   obtain ⟨z, t, hkey⟩ := hk y (Array.mem_toList_iff.mp hy)
   simp [DictEntry.refKey, hkey]
  have a' : ¬ es.toList.any (·.refKey) = true := by rw [a]; exact Bool.false_ne_true
  rw [if_neg a']
  exact congrArg some e
theorem zF.look {h : Heap} {x dx C : Addr} {mA : MG} (I : zF h x dx C mA) : ∃ od, PySem.W.InstAt h x (instObj C dx) C (some od) /\ ∀ name, lookIn name od = some (mA name) :=
 let ⟨od, ho, hl⟩ := Dd I.ns
 ⟨od, ⟨I.obj, rfl, rfl, ho⟩, hl⟩
section
variable {prog : Program} {w : World} {A : Around} {E : EV} {s : Shared} {K : Frag} {x dx C f : Addr} {mA : MG} {name : Str} {v : Value}
theorem Ie {expr : Bool} {Q : EV} (X : K.In s.heap) (I : zF s.heap x dx C mA) (hg : plainGet K C name = true) (hh : hasDictIn K C = true)
  (ha : findIn K (.ref C) name = some none) (hv : mA name = some v) (hv' : handedIn v = true) (h : Q v { s with toks := s.toks + 1 }) :
  wpAny (model prog w) A (getAttr (.ref x) name expr) Q E s := by
 obtain ⟨od, J, hl⟩ := I.look
 exact PySem.W.get_value X J (plainGet_of hg).1 (PySem.W.findObj_own hh ha rfl (by rw [hl, hv])) hv' h
theorem Gg {pl : Sem Bool} {Q : Value × List Value -> Shared -> Prop} (X : K.In s.heap) (I : zF s.heap x dx C mA) (hg : plainGet K C name = true)
  (hf : findIn K (.ref C) name = some (some (.ref f))) (ht : isFn K (.ref f) = true) (hv : mA name = none) (h : Q (.ref f, [.ref x]) s) :
  wpAny (model prog w) A (getMethod (.ref x) name pl) Q E s := by
 obtain ⟨od, J, hl⟩ := I.look
 exact PySem.W.method_fn X J (plainGet_of hg).1 (plainGet_of hg).2 hf (beq_iff_eq.mp ht) (by show (lookIn name od).map (·.isSome) = some false; rw [hl, hv]; rfl) h
theorem Ih {ns : List Str} {Q : Unit -> Shared -> Prop} (X : K.In s.heap) (I : zF s.heap x dx C mA)
  (hs : findIn K (.ref C) "__setattr__" = some (some (.builtin "object.__setattr__"))) (hp : plainOver K C = true) (ht : takerIn K C name = some none) (hh : hasDictIn K C = true)
  (hw : PySem.Within mA ns) (hsz : ns.length <= sizeLine)
  (h : ∀ h', zF h' x dx C (fun y => if y = name then some v else mA y) -> Heap.SameBut dx s.heap h' -> Q () { s with heap := h', toks := s.toks + 2 }) :
  wpAny (model prog w) A (setAttr (.ref x) name v) Q E s := by
 obtain ⟨od, J, hl⟩ := I.look
 refine PySem.W.set_plain X J hs (PySem.W.osa_open (s := { s with toks := s.toks + 1 }) (r := none) X J hp ht fun b => ?_)
 obtain ⟨cd, hc, hd'⟩ := PySem.W.any_some hh
 have hx : s.heap.get? x = some ⟨.ref C, some dx, .plain, #[]⟩ := I.obj
 refine wpAny_bind (wpAny_pure (wpAny_bind (wpAny_bind (wpAny_loadPart hx (wpAny_bind (PySem.W.Looks.here (s := { s with toks := s.toks + 1 }) (PySem.W.looks_clsIn X hc) ?_))))))
 rw [hd']
 refine wpAny_pure (a := some dx) (wpAny_bind (wpAny_pure (wpAny_bind ?_)))
 refine wpAny_nsSet1 (s := { s with toks := s.toks + 1 }) I.ns fun h' hn2 hs2 => ?_
 obtain ⟨oD, esD, epD, hoD, hdD, hcD⟩ := hn2.count (PySem.Within.cons name v hw)
 refine wpAny_bind (wpAny_lookBehind hoD (by rw [hdD]; exact pastItsLine_dict (le_trans hcD (by rw [length_cons]; omega))) ?_)
 exact wpAny_pure (h _ ⟨(hs2.2 _ (Ne.symm I.ne)).trans I.obj, hn2, I.ne⟩ hs2)
theorem GX {R : Result -> Shared -> Prop} {vs : List Value} {kw : List (Str × Value)} (X : K.In s.heap) (hm : makesIn K C = true)
  (hi : findIn K (.ref C) "__init__" = some (some (.ref f))) (hf : typeIn K (.ref f) = some (.type "function"))
  (h : codeAny (model prog w) (A.under (.builtin "type.__call__" ⟨.ref C :: vs, kw⟩)) (.call (.ref f) ⟨.ref (s.heap.objs.size + 1) :: vs, kw⟩) (PySem.W.InitBack (s.heap.objs.size + 1) R)
   { s with heap := (s.heap.push emptyDict).push (instObj C s.heap.objs.size) }) :
  codeAny (model prog w) A (.call (.ref C) ⟨vs, kw⟩) R s := by
 obtain ⟨hh, g, d, t, os⟩ := s
 exact PySem.W.make_core (PySem.W.makes_of X hm) (PySem.W.looks_findIn X hi) (fun self => PySem.W.bind_fn X self hf) (.inl rfl) h
end
def aX (f : Str) (v : V) : List (Str × V) -> List (Str × V)
 | [] => [(f, v)]
 | (g, x) :: r => if g = f then (g, v) :: r else (g, x) :: aX f v r
theorem jP (f g : Str) (v : V) : ∀ fs : List (Str × V), (aX f v fs).lookup g = if g = f then some v else fs.lookup g
 | [] => by
  show List.lookup g [(f, v)] = _
  by_cases h : g = f
  ·have hb : (g == f) = true := beq_iff_eq.mpr h
   simp only [List.lookup, hb, if_pos h]
  ·have hb : (g == f) = false := beq_eq_false_iff_ne.mpr h
   simp only [List.lookup, hb, if_neg h]
 | (k, x) :: r => by
  have ih := jP f g v r
  rw [show aX f v ((k, x) :: r) = (if k = f then (k, v) :: r else (k, x) :: aX f v r) from rfl]
  by_cases hk : k = f
  ·rw [if_pos hk]
   by_cases h : g = k
   ·have hb : (g == k) = true := beq_iff_eq.mpr h
    simp only [List.lookup, hb, if_pos (h.trans hk)]
   ·have hb : (g == k) = false := beq_eq_false_iff_ne.mpr h
    simp only [List.lookup, hb, if_neg (fun e : g = f => h (e.trans hk.symm))]
  ·rw [if_neg hk]
   by_cases h : g = k
   ·have hb : (g == k) = true := beq_iff_eq.mpr h
    simp only [List.lookup, hb, if_neg (fun e : g = f => hk (h.symm.trans e))]
   ·have hb : (g == k) = false := beq_eq_false_iff_ne.mpr h
    simp only [List.lookup, hb]
    exact ih
theorem qN (f : Str) (v : V) : ∀ fs : List (Str × V), f ∈ (aX f v fs).map (·.1) /\ ∀ g, g ∈ fs.map (·.1) -> g ∈ (aX f v fs).map (·.1)
 | [] => ⟨by simp [aX], fun g h => by simp at h⟩
 | (k, x) :: r => by
  obtain ⟨i1, i2⟩ := qN f v r
  rw [show aX f v ((k, x) :: r) = (if k = f then (k, v) :: r else (k, x) :: aX f v r) from rfl]
  by_cases hk : k = f
  ·rw [if_pos hk]
   subst hk
   exact ⟨Z2, fun g h => by simpa using h⟩
  ·rw [if_neg hk]
   refine ⟨?_, fun g h => ?_⟩
   ·rw [map_cons]
    exact mem_cons_of_mem _ i1
   ·rw [map_cons] at h ⊢
    rcases mem_cons.mp h with e | e
    ·exact mem_cons.mpr (.inl e)
    ·exact mem_cons_of_mem _ (i2 g e)
theorem nM (f : Str) (v : V) : ∀ fs : List (Str × V), (aX f v fs).length <= fs.length + 1
 | [] => by simp [aX]
 | (k, x) :: r => by
  have ih := nM f v r
  rw [show aX f v ((k, x) :: r) = (if k = f then (k, v) :: r else (k, x) :: aX f v r) from rfl]
  by_cases hk : k = f
  ·rw [if_pos hk, length_cons, length_cons]; omega
  ·rw [if_neg hk, length_cons, length_cons]; omega
theorem oO.some_of {v : V} {o : Option Value} (r : oO (some v) o) : ∃ u, o = some u /\ RelV v u := by
 cases o with
 | none => exact (show False from r).elim
 | some u => exact ⟨u, rfl, r⟩
theorem oO.none_of {o : Option Value} (r : oO none o) : o = none := by
 cases o with
 | none => rfl
 | some u => exact (show False from r).elim
theorem DN {v : V} {u : Value} (r : RelV v u) : handedIn u = true := by
 cases v with
 | non => cases (show u = Value.none from r); rfl
 | bl b => cases (show u = Value.bool b from r); rfl
 | int i => obtain ⟨t, e⟩ := (show ∃ t, u = Value.int i t from r); cases e; rfl
 | str x => obtain ⟨t, e⟩ := (show ∃ t, u = Value.str x t from r); cases e; rfl
 | byt b => obtain ⟨t, e⟩ := (show ∃ t, u = Value.bytes b t from r); cases e; rfl
 | flt b => obtain ⟨t, e⟩ := (show ∃ t, u = Value.float b t from r); cases e; rfl
 | ref a => cases (show u = Value.ref a from r); rfl
 | ty n => cases (show u = Value.type n from r); rfl
section
variable {P : Program} {w : World} {H H' : Hp} {h h' : Heap} {a C dx : Addr} {fs fs' : List (Str × V)}
theorem sV (hok : HOk P w H h) (e : H a = some (.ins C dx fs)) : ∃ mA, zF h a dx C mA /\ (∀ f, oO (fs.lookup f) (mA f)) /\ PySem.Within mA (fs.map (·.1)) /\ fs.length <= 1000 /\ H dx = some (.own a) := by
 obtain ⟨d, z, ne, ob, mA, n, r, q⟩ := (show bM P w H h a (.ins C dx fs) from hok a _ e)
 exact ⟨mA, ⟨ob, n, ne⟩, r, q, z, d⟩
end
structure Cls (K : Frag) (C : Addr) : Prop where
 pg : plainGet K C Str.empty = true
 hd : hasDictIn K C = true
 po : plainOver K C = true
 sa : findIn K (.ref C) "__setattr__" = some (some (.builtin "object.__setattr__"))
theorem Cls.get {K : Frag} {C : Addr} (c : Cls K C) (f : Str) : plainGet K C f = true := c.pg
def bZ (K : Frag) (C : Addr) (f : Str) : Prop := findIn K (.ref C) f = some none
theorem bZ.taker {K : Frag} {C : Addr} {f : Str} (n : bZ K C f) : takerIn K C f = some none := by
 unfold takerIn
 rw [show findIn K (.ref C) f = some none from n]
 rfl
structure Meth (K : Frag) (C : Addr) (m : Str) (f : Addr) : Prop where
 at_ : findIn K (.ref C) m = some (some (.ref f))
 fn : isFn K (.ref f) = true
 kp : keepIn K (.ref f) = true
section
variable {X : Cx} {pins : OP} {σ : St} {H : Hp} {s : Shared} {a C dx : Addr} {fs : List (Str × V)} {f : Str} {v : V} {A : Around} {E : EV}
theorem Ay {b : Bool} {Q : EV} (I : Inv X pins σ H s) (e : H a = some (.ins C dx fs)) (c : Cls X.K C) (n : bZ X.K C f) (l : fs.lookup f = some v)
  (h : ∀ u s', Inv X pins σ H s' -> RelV v u -> Q u s') : wpAny (model X.prog X.w) A (getAttr (.ref a) f b) Q E s := by
 obtain ⟨mA, O, r, _, _, _⟩ := sV I.hok e
 obtain ⟨u, hu, ru⟩ := oO.some_of (v := v) (o := mA f) (by rw [<- l]; exact r f)
 exact Ie I.kIn O (c.get f) c.hd n hu (DN ru) (h u _ (I.tok _) ru)
theorem pK {m : Str} {g : Addr} {pl : Sem Bool} {Q : Value × List Value -> Shared -> Prop} (I : Inv X pins σ H s) (e : H a = some (.ins C dx fs)) (c : Cls X.K C) (k : Meth X.K C m g) (l : fs.lookup m = none)
  (h : Q (.ref g, [.ref a]) s) : wpAny (model X.prog X.w) A (getMethod (.ref a) m pl) Q E s := by
 obtain ⟨mA, O, r, _, _, _⟩ := sV I.hok e
 have hn : mA m = none := oO.none_of (by rw [<- l]; exact r m)
 exact Gg I.kIn O (c.get m) k.at_ k.fn hn h
theorem Bb {y : V} {u : Value} {Q : Unit -> Shared -> Prop} (I : Inv X pins σ H s) (e : H a = some (.ins C dx fs)) (c : Cls X.K C) (n : bZ X.K C f) (hl : fs.length < 1000) (ry : RelV y u)
  (h : ∀ s', Inv X pins σ (upd H a (.ins C dx (aX f y fs))) s' -> Q () s') : wpAny (model X.prog X.w) A (setAttr (.ref a) f u) Q E s := by
 obtain ⟨mA, O, r, wi, _, ho⟩ := sV I.hok e
 have hz : (fs.map (·.1)).length <= sizeLine := by rw [length_map, sizeLine_eq]; omega
 refine Ih I.kIn O c.sa c.po n.taker c.hd wi hz fun h' O' sb => h _ ?_
 have hd : ∃ o, h'.get? dx = some o := let ⟨o, _, _, e', _⟩ := O'.ns; ⟨o, e'⟩
 refine I.write (x := a) (e := dx) (by rw [e]; exact True.intro) (.inr ho) (fun b q hb z => (sb.2 b hb).trans z) hd ?_
 refine ⟨by rw [aA O.ne]; exact ho, ?_, O.ne, O'.obj, _, O'.ns, fun g => ?_, fun g hg => ?_⟩
 ·have := nM f y fs; omega
 ·show oO ((aX f y fs).lookup g) (if g = f then some u else mA g)
  rw [jP]
  by_cases q : g = f
  ·rw [if_pos q, if_pos q]; exact ry
  ·rw [if_neg q, if_neg q]; exact r g
 ·by_cases q : g = f
  ·rw [q]; exact (qN f y fs).1
  ·refine (qN f y fs).2 g (wi g fun z => hg ?_)
   show (if g = f then some u else mA g) = none
   rw [if_neg q]; exact z
theorem Inv.made (I : Inv X pins σ H s) : Inv X pins σ (upd (upd H s.heap.objs.size (.own (s.heap.objs.size + 1))) (s.heap.objs.size + 1) (.ins C s.heap.objs.size []))
  { s with heap := (s.heap.push emptyDict).push (instObj C s.heap.objs.size) } := by
 have e1 : (s.heap.push emptyDict).get? s.heap.objs.size = some emptyDict := Heap.get?_push_size s.heap rfl
 have e2 : ((s.heap.push emptyDict).push (instObj C s.heap.objs.size)).get? (s.heap.objs.size + 1) = some (instObj C s.heap.objs.size) := by
  have := Heap.get?_push_size (s.heap.push emptyDict) (o := instObj C s.heap.objs.size) rfl
  rwa [Heap.size_push] at this
 have e3 : (s.heap.push emptyDict).Ns s.heap.objs.size (fun _ => none) := ⟨emptyDict, #[], _, e1, rfl, (fun e he => absurd he Z2), fun _ => rfl⟩
 have I1 := I.laid (a := s.heap.objs.size) (o := .own (s.heap.objs.size + 1)) (h' := s.heap.push emptyDict) (t' := s.toks) (fun b u q => Heap.get?_push_of_some _ q) (le_refl _) ⟨_, e1⟩
 refine I1.laid (a := s.heap.objs.size + 1) (o := .ins C s.heap.objs.size []) (t' := s.toks) (fun b u q => Heap.get?_push_of_some _ q) (Nat.le_of_eq (Heap.size_push _ _)) ?_
 have ne : s.heap.objs.size ≠ s.heap.objs.size + 1 := ne_of_lt (lt_succ_self _)
 refine ⟨by rw [aA ne, ao], zero_le _, ne, e2, fun _ => none, (Heap.Ns1.of_empty e3).at fun o q => Heap.get?_push_of_some _ q, fun _ => True.intro, fun y hy => absurd rfl hy⟩
theorem Ib {prog : Program} {w : World} {env : Env} {e : Expr} {f : Str} {pos : Pos} {s : Shared} {Q : EV} (hb : attributeBase e f env (eval e env) = eval e env)
  (h : wpAny (model prog w) A (eval e env) (fun o s₁ => wpAny (model prog w) A (getAttr o f true) Q E s₁) E s) : wpAny (model prog w) A (eval (.Attribute e f pos) env) Q E s :=
 Attribute_any_ h (by rw [arm_eval_Attribute, hb])
end
def K9 (K : Frag) (ta : TE) (f : Str) : TE := fun σ H Q => ta σ H fun x H1 => ∃ a C dx fs v, x = .ref a /\ H1 a = some (.ins C dx fs) /\ Cls K C /\ bZ K C f /\ fs.lookup f = some v /\ Q v H1
def KY (K : Frag) (ta tv : TE) (f : Str) : TS := fun D σ H => tv σ H fun y H1 => ta σ H1 fun x H2 => ∃ a C dx fs, x = .ref a /\ H2 a = some (.ins C dx fs) /\ Cls K C /\ bZ K C f /\ fs.length < 1000 /\
 D.nx σ (upd H2 a (.ins C dx (aX f y fs)))
def QB (X : Cx) (op : Operator) (rd : V -> V -> Hp -> VK -> Prop) : Prop :=
 ∀ (pins : OP) (s : Shared) (σ : St) (H : Hp) (x y : V) (u v : Value) (Q : VK), Inv X pins σ H s -> RelV x u -> RelV y v -> rd x y H Q -> wpAny (model X.prog X.w) X.A (inplaceOp op u v) (EP X pins σ Q) X.xe s
section
variable {X : Cx} {o e value : Expr} {f : Str} {pos pos' tpos : Pos} {ta tv : TE}
theorem aW (he : PE X e ta) (hb : attributeBase e f X.env (eval e X.env) = eval e X.env) : PE X (.Attribute e f pos) (K9 X.K ta f) := by
 intro pins s σ H Q I h
 refine Ib hb (thn (he pins s σ H _ I h) fun u s1 hz => ?_)
 obtain ⟨x, H1, I1, rx, a, C, dx, fs, v, ex, ea, c, n, l, q⟩ := hz
 subst ex
 obtain rfl : u = Value.ref a := rx
 exact Ay I1 ea c n l fun u' s2 I2 ru => ⟨v, H1, I2, ru, q⟩
theorem Ky (ha : PE X o ta) (hv : PE X value tv) (hs : swapsWith value (some (.Attribute o f pos')) pos.line X.env = pure false) : PS X (.Assign [.Attribute o f pos'] value pos) (KY X.K ta tv f) := by
 intro pins s σ H D I h
 refine plainObj_wpAny_Assign_Attribute (thn (hv pins s σ H _ I h) fun u s1 ⟨y, H1, I1, ry, q⟩ => thn (ha pins s1 σ H1 _ I1 q) fun ov s2 hz => ?_) hs
 obtain ⟨x, H2, I2, rx, a, C, dx, fs, ex, ea, c, n, l, q2⟩ := hz
 subst ex
 obtain rfl : ov = Value.ref a := rx
 exact Bb I2 ea c n l ry fun s3 I3 => ⟨σ, _, I3, q2⟩
def QM : V -> V -> Hp -> VK -> Prop := fun x y H Q => ∃ i j, x = .int i /\ y = .int j /\ Q (.int (i + j)) H
theorem Fy : QB X .Add QM := by
 rintro pins s σ H x y u v Q I rx ry ⟨i, j, rfl, rfl, q⟩
 obtain ⟨t, rfl⟩ := (show ∃ t, u = Value.int i t from rx)
 obtain ⟨t', rfl⟩ := (show ∃ t', v = Value.int j t' from ry)
 exact PyProof.Rows.iadd_int ⟨.int (i + j), H, I.tok _, ⟨_, rfl⟩, q⟩
end
section
variable {X : Cx} {pins : OP} {σ : St} {H : Hp} {s : Shared} {A : Around} {E : EV} {Q : EV} {c : Value} {b : Bool}
inductive pF (K : Frag) (H : Hp) : V -> Value -> Prop where
 | non : pF K H .non (.type "NoneType")
 | bl (x : Bool) : pF K H (.bl x) (.type "bool")
 | int (i : Int) : pF K H (.int i) (.type "int")
 | str (x : Str) : pF K H (.str x) (.type "str")
 | flt (x : UInt64) : pF K H (.flt x) (.type "float")
 | lst {a : Addr} {xs : List V} (e : H a = some (.lst xs)) : pF K H (.ref a) (.type "list")
 | frz {a : Addr} {o : Obj} {xs : List V} (e : H a = some (.frz o (.lst xs))) : pF K H (.ref a) (.type "list")
 | tup {a : Addr} {xs : List V} (e : H a = some (.tup xs)) : pF K H (.ref a) (.type "tuple")
 | dK {a : Addr} {kvs : List (Key × V)} (e : H a = some (.dK kvs)) : pF K H (.ref a) (.type "dict")
 | dT {a : Addr} {kvs : List (List Key × V)} (e : H a = some (.dT kvs)) : pF K H (.ref a) (.type "dict")
 | ins {a C dx : Addr} {fs : List (Str × V)} (e : H a = some (.ins C dx fs)) (cl : Cls K C) (ha : findIn K (.ref C) "__class__" = some (some (.builtin "object.__class__")))
   (hn : specialIn K (.builtin "object.__class__") "__get__" = some (some (.builtin "getset_descriptor.__get__"))) (htk : takesIn K (.builtin "object.__class__") = some true)
   (hm : mroIn K C (.type "object") = some true) : pF K H (.ref a) (.ref C)
theorem vJ {x : V} {u t : Value} (I : Inv X pins σ H s) (rx : RelV x u) (ty : pF X.K H x t) (e : kitOne X.K t c = some b) (h : ∀ tk, Q (.bool b) { s with toks := tk }) :
  wpAny (model X.prog X.w) A (call (.builtin "isinstance") [u, c]) Q E s := by
 cases ty with
 | non => cases (show u = Value.none from rx); exact kia_one PySem.W.kitx_none I.kIn True.intro e (fun z => nomatch z) h
 | bl y => cases (show u = Value.bool y from rx); exact kia_one PySem.W.kitx_bool I.kIn True.intro e (fun z => nomatch z) h
 | int i => obtain ⟨t, q⟩ := (show ∃ t, u = Value.int i t from rx); cases q; exact kia_one PySem.W.kitx_int I.kIn True.intro e (fun z => nomatch z) h
 | str y => obtain ⟨t, q⟩ := (show ∃ t, u = Value.str y t from rx); cases q; exact kia_one PySem.W.kitx_str I.kIn True.intro e (fun z => nomatch z) h
 | flt y => obtain ⟨t, q⟩ := (show ∃ t, u = Value.float y t from rx); cases q; exact kia_one PySem.W.kitx_float I.kIn True.intro e (fun z => nomatch z) h
 | @lst a xs ea =>
  cases (show u = Value.ref a from rx)
  obtain ⟨_, _, n, _, h1⟩ := (show bM X.prog X.w H s.heap a (.lst xs) from I.hok a _ ea)
  exact kia_one kitx_list I.kIn ⟨_, h1, rfl⟩ e (fun z => nomatch z) h
 | @frz a ob xs ea =>
  cases (show u = Value.ref a from rx)
  obtain ⟨_, _, _, n, _, h1⟩ := (show bM X.prog X.w H s.heap a (.frz ob (.lst xs)) from I.hok a _ ea)
  exact kia_one kitx_list I.kIn ⟨_, h1, rfl⟩ e (fun z => nomatch z) h
 | @tup a xs ea =>
  cases (show u = Value.ref a from rx)
  obtain ⟨_, _, _, p⟩ := (show bM X.prog X.w H s.heap a (.tup xs) from I.hok a _ ea)
  obtain ⟨o, h1, h2, _⟩ := p
  exact kia_one PySem.W.kitx_tuple I.kIn ⟨o, h1, h2⟩ e (fun z => nomatch z) h
 | @dK a kvs ea =>
  cases (show u = Value.ref a from rx)
  obtain ⟨_, _, vs, _, p⟩ := (show bM X.prog X.w H s.heap a (.dK kvs) from I.hok a _ ea)
  obtain ⟨o, es, ep, h1, h2, _⟩ := p
  exact kia_one kitx_dict I.kIn ⟨o, h1, h2.1⟩ e (fun z => nomatch z) h
 | @dT a kvs ea =>
  cases (show u = Value.ref a from rx)
  obtain ⟨_, _, xs, _, o, es, ep, h1, h2, _⟩ := (show bM X.prog X.w H s.heap a (.dT kvs) from I.hok a _ ea)
  exact kia_one kitx_dict I.kIn ⟨o, h1, h2.1⟩ e (fun z => nomatch z) h
 | @ins a C dx fs ea cl ha hn htk hm =>
  cases (show u = Value.ref a from rx)
  obtain ⟨mA, O, _⟩ := sV I.hok ea
  obtain ⟨od, J, _⟩ := O.look
  exact kia_one (PySem.W.kitx_own (cl.get _) cl.hd ha hn htk hm) I.kIn J e (fun z => nomatch z) h
end
structure aR (k : Nat) (A : Around) : Prop where
 hd : A.handled = none
 dp : A.depth + 3 * k + 5 < recursionLimit
 un : A.units + 16 * k + 200 < cLine
theorem aR.mono {j k : Nat} {A : Around} (r : aR k A) (h : j <= k) : aR j A := ⟨r.hd, by have := r.dp; omega, by have := r.un; omega⟩
theorem aR.deeper {k : Nat} {A : Around} (r : aR (k + 1) A) (env : Env) : aR k (A.deeper env) :=
 ⟨r.hd, by have := r.dp; show A.depth + 1 + 3 * k + 5 < _; omega, by have := r.un; show A.units + 3 + 16 * k + 200 < _; omega⟩
theorem Ao {A : Around} {C : Addr} {us : List Value} {kw : List (Str × Value)} : (A.under (.builtin "type.__call__" ⟨.ref C :: us, kw⟩)).depth = A.depth + 1 := by
 first | rfl | simp [Around.under, Code.weight, Code.isCreation, Code.isGuard, Code.isCaller, Code.frames, Code.isFrame, guardIds]
theorem Af {A : Around} {C : Addr} {us : List Value} {kw : List (Str × Value)} : (A.under (.builtin "type.__call__" ⟨.ref C :: us, kw⟩)).units = A.units + 1 := by
 first | rfl | simp [Around.under, Code.cUnits, Code.frames, Code.isFrame]
theorem aR.make {k : Nat} {A : Around} (r : aR (k + 1) A) (C : Addr) (us : List Value) (kw : List (Str × Value)) : aR k (A.under (.builtin "type.__call__" ⟨.ref C :: us, kw⟩)) :=
 ⟨r.hd, by have := r.dp; rw [Ao]; omega, by have := r.un; rw [Af]; omega⟩
theorem aR.depth {k : Nat} {A : Around} (r : aR k A) : A.depth < recursionLimit := by have := r.dp; omega
theorem aR.units {k : Nat} {A : Around} (r : aR k A) : A.units + 64 < cLine := by have := r.un; omega
def Dg : TA := fun _ H Q => Q [] H
def vB (ta : TE) (tr : TA) : TA := fun σ H Q => ta σ H fun x H1 => tr σ H1 fun xs H2 => Q (x :: xs) H2
section
variable {X : Cx} {e : Expr} {es : List Expr} {te : TE} {t : TA} {pos : Pos}
theorem au : PA X [] Dg := fun _ _ _ _ H Q I h => Calls.spliced_nil ⟨[], H, I, .nil, h⟩
theorem aj (ha : PE X e te) (hr : PA X es t) (hs : starEach (e :: es) X.env = (false, eval e X.env) :: starEach es X.env := by rfl) : PA X (e :: es) (vB te t) := by
 intro pos pins s σ H Q I h
 rw [hs]
 show wpAny _ _ (spliced ((false, eval e X.env) :: backTo pos (starEach es X.env))) _ _ s
 refine Calls.spliced_cons (thn (ha pins s σ H _ I h) fun u s1 ⟨x, H1, I1, r1, q1⟩ => ?_)
 exact thn (hr pos pins s1 σ H1 _ I1 q1) fun us s2 ⟨xs, H2, I2, r2, q2⟩ => ⟨x :: xs, H2, I2, .cons r1 r2, q2⟩
def Qc (t : TA) : TE := fun σ H Q => t σ H fun xs H1 => xs.length <= sizeLine /\ ∀ p, H1 p = none -> Q (.ref p) (upd H1 p (.tup xs))
def KR (t : TA) : TE := fun σ H Q => t σ H fun xs H1 => xs.length <= sizeLine /\ ∀ p, H1 p = none -> Q (.ref p) (upd H1 p (.lst xs))
theorem bD {x1} (h : PA X es t) : PE X (.Tuple es x1 pos) (Qc t) := by
 intro pins s σ H Q I hq
 refine wpAny_Tuple_spliced (thn (h pos pins s σ H _ I hq) fun us s1 ⟨xs, H1, I1, r, z, q⟩ => ⟨by rw [<- r.length]; exact z, ?_⟩)
 have hf : H1 s1.heap.objs.size = none := I1.hok.fresh (le_refl _)
 refine ⟨.ref s1.heap.objs.size, upd H1 s1.heap.objs.size (.tup xs), I1.laid (t' := s1.toks) (fun b u e => Heap.get?_push_of_some _ e) (le_refl _) ?_, rfl, q _ hf⟩
 exact ⟨z, us, r, ⟨_, Heap.get?_push_size _ rfl, rfl, _, rfl⟩⟩
theorem b8 (h : PA X es t) : PE X (.List es pos) (KR t) := by
 intro pins s σ H Q I hq
 refine wpAny_List_spliced (thn (h pos pins s σ H _ I hq) fun us s1 ⟨xs, H1, I1, r, z, q⟩ => ⟨by rw [<- r.length]; exact z, ?_⟩)
 have hf : H1 s1.heap.objs.size = none := I1.hok.fresh (le_refl _)
 refine ⟨.ref s1.heap.objs.size, upd H1 s1.heap.objs.size (.lst xs), I1.laid (t' := s1.toks) (fun b u e => Heap.get?_push_of_some _ e) (le_refl _) ?_, rfl, q _ hf⟩
 exact ⟨z, us, 0, r, Heap.get?_push_size _ rfl⟩
end
abbrev Sp := List V -> Hp -> VK -> XK -> Prop
abbrev CXT := List Env -> Hp -> Shared -> XK -> Value -> Shared -> Prop
structure zV (P : Program) (w : World) (K : Frag) (mg : MG) (base : Heap) (A : Around) (outer : List Env) (s : Shared) (H : Hp) : Prop where
 frames : A.frames = some outer
 mod : Mod K mg base
 bs : ∀ b o, base.get? b = some o -> s.heap.get? b = some o /\ H b = none
 bsz : base.objs.size <= s.heap.objs.size
 funs : s.heap.FunFrames base outer
 frf : ∀ b ∈ frs outer, H b = none
 hok : HOk P w H s.heap
 bare : AllBare s.gens
def CE (outer : List Env) (P : Program) (w : World) (H : Hp) (s : Shared) (Q : VK) (u : Value) (s' : Shared) : Prop :=
 ∃ v H', s'.os = s.os /\ AllBare s'.gens /\ Un (frs outer) [] H H' s.heap s'.heap /\ HOk P w H' s'.heap /\ RelV v u /\ Q v H'
def CR (CX : CXT) (outer : List Env) (P : Program) (w : World) (H : Hp) (s : Shared) (Q : VK) (E : XK) (r : Result) (s' : Shared) : Prop :=
 match r with
 | .ok (.ret u) => CE outer P w H s Q u s'
 | .ok _ => False
 | .error e => CX outer H s E e s'
structure aG (P : Program) (w : World) (K : Frag) (mg : MG) (base : Heap) (CX : CXT) (k : Nat) (f : Addr) (fd : FuncData) (ps : List Str) (sp : Sp) : Prop where
 len : ∀ vs H Q E, sp vs H Q E -> vs.length = ps.length
 run : ∀ (A : Around) (outer : List Env) (s : Shared) (H : Hp) (args : Args) (us : List Value) (vs : List V) (Q : VK) (E : XK), aR k A -> zV P w K mg base A outer s H -> BindsTo s fd args (ps.zip us) -> Vals vs us -> sp vs H Q E ->
  codeAny (model P w) A (.call (.ref f) args) (CR CX outer P w H s Q E) s
theorem aG.mono {P : Program} {w : World} {K : Frag} {mg : MG} {base : Heap} {CX : CXT} {j k : Nat} {f : Addr} {fd : FuncData} {ps : List Str} {sp : Sp} (F : aG P w K mg base CX j f fd ps sp) (h : j <= k) :
  aG P w K mg base CX k f fd ps sp := ⟨F.len, fun A outer s H args us vs Q E hr => F.run A outer s H args us vs Q E (hr.mono h)⟩
theorem aG.imp {P : Program} {w : World} {K : Frag} {mg : MG} {base : Heap} {CX : CXT} {k : Nat} {f : Addr} {fd : FuncData} {ps : List Str} {sp sp' : Sp} (F : aG P w K mg base CX k f fd ps sp)
  (h : ∀ vs H Q E, sp' vs H Q E -> sp vs H Q E) : aG P w K mg base CX k f fd ps sp' :=
 ⟨fun vs H Q E q => F.len vs H Q E (h _ _ _ _ q), fun A outer s H args us vs Q E hr he hb hv hs => F.run A outer s H args us vs Q E hr he hb hv (h _ _ _ _ hs)⟩
theorem zV.make {P : Program} {w : World} {K : Frag} {mg : MG} {base : Heap} {A : Around} {outer : List Env} {s : Shared} {H : Hp} (e : zV P w K mg base A outer s H) (C : Addr) (us : List Value) (kw : List (Str × Value)) :
  zV P w K mg base (A.under (.builtin "type.__call__" ⟨.ref C :: us, kw⟩)) outer s H := ⟨by first | exact e.frames | (simpa [Around.under, Code.envs, Code.isFrame, pushEnvs] using e.frames), e.mod, e.bs, e.bsz, e.funs, e.frf, e.hok, e.bare⟩
section
variable {X : Cx} {pins : OP} {σ : St} {H : Hp} {s s' : Shared}
theorem Inv.env0 (I : Inv X pins σ H s) : zV X.prog X.w X.K X.mg X.base X.A X.stack s H :=
 ⟨I.ok.frames, I.ok.mod, I.bs, le_trans I.ok.bsz I.sz, I.stack, I.stkFree, I.hok, I.bare⟩
theorem Inv.after {Q : VK} {u : Value} (I : Inv X pins σ H s) (h : CE X.stack X.prog X.w H s Q u s') : EP X pins σ Q u s' := by
 obtain ⟨v, H', os, bare, un, hok, r, q⟩ := h
 obtain ⟨hh, g, d, t, os'⟩ := s'
 obtain rfl : os' = s.os := os
 exact ⟨v, H', I.call (h' := hh) (g' := g) (d' := d) (t' := t) (ch := []) un hok bare (fun b z => absurd z Z2), r, q⟩
end
def Ez (sp : Sp) (dvs : List V) (E : XK) (t : TA) : TE := fun σ H Q => t σ H fun vs H1 => sp (vs ++ dvs) H1 Q E
def Jb (C : Addr) (m : Str) (sp : Sp) (dvs : List V) (E : XK) (ta : TE) (t : TA) : TE := fun σ H Q => ta σ H fun x H1 => ∃ a dx fs, x = .ref a /\ H1 a = some (.ins C dx fs) /\ fs.lookup m = none /\
 t σ H1 fun vs H2 => sp (x :: (vs ++ dvs)) H2 Q E
def Ji (C : Addr) (sp : Sp) (dvs : List V) (E : XK) (t : TA) : TE := fun σ H Q => t σ H fun vs H1 => ∀ x dx, H1 x = none -> H1 dx = none -> dx ≠ x ->
 sp (.ref x :: (vs ++ dvs)) (upd (upd H1 dx (.own x)) x (.ins C dx [])) (fun v H2 => v = .non /\ Q (.ref x) H2) E
def Binds (K : Frag) (fd : FuncData) (ps : List Str) (ds : List Value) : Prop :=
 ∀ (s : Shared) (us : List Value), K.In s.heap -> (us ++ ds).length = ps.length -> BindsTo s fd ⟨us, []⟩ (ps.zip (us ++ ds))
theorem Binds.all {K : Frag} {fd : FuncData} {ps : List Str} (h : ∀ us : List Value, us.length = ps.length -> bindArgs fd ⟨us, []⟩ = pure (ps.zip us)) : Binds K fd ps [] := fun s us _ hl => by
 rw [append_nil] at hl ⊢
 exact .of_eq (h us hl)
def pQ (CX : CXT) (X : Cx) (E : XK) : Prop := ∀ (pins : OP) (σ : St) (H : Hp) (s : Shared) (e : Value) (s' : Shared), Inv X pins σ H s -> CX X.stack H s E e s' -> X.xe e s'
section
variable {X : Cx} {CX : CXT} {k : Nat} {f C : Addr} {fd : FuncData} {ps : List Str} {sp : Sp} {dvs : List V} {ds : List Value} {E : XK} {x m : Str} {p pos apos : Pos} {e o : Expr} {es : List Expr} {ta : TE} {t : TA}
theorem xH {pins : OP} {σ : St} {H : Hp} {s : Shared} {Q : VK} {us : List Value} {vs : List V} (F : aG X.prog X.w X.K X.mg X.base CX k f fd ps sp) (hr : aR k X.A) (hb : Binds X.K fd ps ds) (hd : Vals dvs ds) (hx : pQ CX X E)
  (I : Inv X pins σ H s) (r : Vals vs us) (h : sp (vs ++ dvs) H Q E) : wpAny (model X.prog X.w) X.A (call (.ref f) us) (EP X pins σ Q) X.xe s := by
 have r2 : Vals (vs ++ dvs) (us ++ ds) := r.append hd
 have hl : (us ++ ds).length = ps.length := by rw [<- r2.length]; exact F.len _ _ _ _ h
 refine wpAny_call (codeAny_mono (F.run X.A X.stack s H ⟨us, []⟩ (us ++ ds) (vs ++ dvs) Q E hr I.env0 (hb s us I.kIn hl) r2 h) fun r s' hq => ?_)
 cases r with
 | error e => exact hx pins σ H s e s' I hq
 | ok fl =>
  cases fl with
  | ret u => exact I.after hq
  | next => exact False.elim hq
  | brk => exact False.elim hq
  | cont => exact False.elim hq
theorem Ij (F : aG X.prog X.w X.K X.mg X.base CX k f fd ps sp) (hr : aR k X.A) (hg : Gl X x) (hm : X.mg x = some (.ref f)) (hk : keepIn X.K (.ref f) = true) (hb : Binds X.K fd ps ds) (hd : Vals dvs ds) (hx : pQ CX X E)
  (ha : PA X (e :: es) t) (hdb : (x == ("__debug__" : Str)) = false := by decide) (he : starEach (e :: es) X.env = (false, eval e X.env) :: starEach es X.env := by rfl) (hpl : (backTo pos (starEach es X.env)).any (·.1) = false := by rfl) :
  PE X (.Call (.Name x p) (e :: es) [] pos) (Ez sp dvs E t) := by
 intro pins s σ H Q I h
 refine wpAny_Call_Name_kw (xT I hg hm ?_ hdb)
 refine callWith_K (h₀ := X.base) I.ok.mod.kin hk (thn (ha pos pins s σ H _ I h) fun us s1 ⟨vs, H1, I1, r, q⟩ => ⟨I1.kIn, ?_⟩) he hpl
 exact xH F hr hb hd hx I1 r q
theorem bx {pl : Sem Bool} (he : PE X o ta) (c : Cls X.K C) (hm : Meth X.K C m f) (F : aG X.prog X.w X.K X.mg X.base CX k f fd ps sp) (hr : aR k X.A) (hb : Binds X.K fd ps ds) (hd : Vals dvs ds) (hx : pQ CX X E) (ha : PA X (e :: es) t)
  (hst : starEach (e :: es) X.env = (false, eval e X.env) :: starEach es X.env := by rfl) (hpl : (backTo pos (starEach es X.env)).any (·.1) = false := by rfl)
  (ht : eval (.Call (.Attribute o m apos) (e :: es) [] pos) X.env = (do
   let ov <- eval o X.env
   standAt apos.atName
   let (f, first) <- holding [ov] (getMethod ov m pl)
   callWith pos f first (backTo pos (starEach (e :: es) X.env)) (backToKw pos (keywordEach [] X.env))) := by rfl) :
  PE X (.Call (.Attribute o m apos) (e :: es) [] pos) (Jb C m sp dvs E ta t) := by
 intro pins s σ H Q I h
 refine methodCall_KW (pl := pl) (thn (he pins s σ H _ I h) fun u s1 ⟨x, H1, I1, rx, a, dx, fs, ex, ea, l, q⟩ => ?_) ht
 subst ex
 obtain rfl : u = Value.ref a := rx
 refine pK I1 ea c hm l ?_
 refine callWith_K (first := [.ref a]) (h₀ := X.base) I.ok.mod.kin hm.kp (thn (ha pos pins s1 σ H1 _ I1 q) fun us s2 ⟨vs, H2, I2, r, q2⟩ => ⟨I2.kIn, ?_⟩) hst hpl
 exact xH (us := .ref a :: us) (vs := .ref a :: vs) F hr hb hd hx I2 (.cons rfl r) q2
theorem iY {pl : Sem Bool} (he : PE X o ta) (c : Cls X.K C) (hm : Meth X.K C m f) (F : aG X.prog X.w X.K X.mg X.base CX k f fd ps sp) (hr : aR k X.A) (hb : Binds X.K fd ps ds) (hd : Vals dvs ds) (hx : pQ CX X E)
  (ht : eval (.Call (.Attribute o m apos) [] [] pos) X.env = (do
   let ov <- eval o X.env
   standAt apos.atName
   let (f, first) <- holding [ov] (getMethod ov m pl)
   callWith pos f first (backTo pos (starEach [] X.env)) (backToKw pos (keywordEach [] X.env))) := by rfl) :
  PE X (.Call (.Attribute o m apos) [] [] pos) (Jb C m sp dvs E ta Dg) := by
 intro pins s σ H Q I h
 refine methodCall_KW (pl := pl) (thn (he pins s σ H _ I h) fun u s1 ⟨x, H1, I1, rx, a, dx, fs, ex, ea, l, q⟩ => ?_) ht
 subst ex
 obtain rfl : u = Value.ref a := rx
 refine pK I1 ea c hm l ?_
 exact PySem.W.callWith_K0 (first := [.ref a]) I1.kIn hm.kp (xH (us := [.ref a]) (vs := [.ref a]) F hr hb hd hx I1 (.cons rfl .nil) q)
structure Mk (K : Frag) (C f : Addr) : Prop where
 makes : makesIn K C = true
 init : findIn K (.ref C) "__init__" = some (some (.ref f))
 fn : isFn K (.ref f) = true
 kp : keepIn K (.ref C) = true
theorem Fo {pins : OP} {σ : St} {H : Hp} {s : Shared} {Q : VK} {us : List Value} {vs : List V} (M : Mk X.K C f) (F : aG X.prog X.w X.K X.mg X.base CX k f fd ps sp) (hr : aR (k + 1) X.A) (hb : Binds X.K fd ps ds) (hd : Vals dvs ds)
  (hx : pQ CX X E) (I : Inv X pins σ H s) (r : Vals vs us)
  (h : ∀ x dx, H x = none -> H dx = none -> dx ≠ x -> sp (.ref x :: (vs ++ dvs)) (upd (upd H dx (.own x)) x (.ins C dx [])) (fun v H2 => v = .non /\ Q (.ref x) H2) E) :
  wpAny (model X.prog X.w) X.A (call (.ref C) us) (EP X pins σ Q) X.xe s := by
 have hq := h (s.heap.objs.size + 1) s.heap.objs.size (I.hok.fresh (Nat.le_succ _)) (I.hok.fresh (le_refl _)) (ne_of_lt (lt_succ_self _))
 have I2 := Inv.made (C := C) I
 have r2 : Vals (V.ref (s.heap.objs.size + 1) :: (vs ++ dvs)) (Value.ref (s.heap.objs.size + 1) :: (us ++ ds)) := .cons rfl (r.append hd)
 have hl : (Value.ref (s.heap.objs.size + 1) :: us ++ ds).length = ps.length := by
  have e := r2.length
  rw [F.len _ _ _ _ hq] at e
  exact e.symm
 refine wpAny_call (GX (f := f) I.kIn M.makes M.init (beq_iff_eq.mp M.fn) (codeAny_mono (F.run _ X.stack _ _ ⟨Value.ref (s.heap.objs.size + 1) :: us, []⟩ (Value.ref (s.heap.objs.size + 1) :: (us ++ ds)) _ _ E (hr.make C us [])
  (I2.env0.make C us []) (hb _ (Value.ref (s.heap.objs.size + 1) :: us) I2.kIn hl) r2 hq) fun r s' hq' => ?_))
 cases r with
 | error e => exact hx pins σ _ _ e s' I2 hq'
 | ok fl =>
  cases fl with
  | ret u =>
   obtain ⟨v, H', I3, rv, ev, q3⟩ := I2.after hq'
   subst ev
   exact ⟨rv, ⟨V.ref (s.heap.objs.size + 1), H', I3, rfl, q3⟩⟩
  | next => exact False.elim hq'
  | brk => exact False.elim hq'
  | cont => exact False.elim hq'
theorem G4 (M : Mk X.K C f) (F : aG X.prog X.w X.K X.mg X.base CX k f fd ps sp) (hr : aR (k + 1) X.A) (hg : Gl X x) (hm : X.mg x = some (.ref C)) (hb : Binds X.K fd ps ds) (hd : Vals dvs ds) (hx : pQ CX X E)
  (ha : PA X (e :: es) t) (hdb : (x == ("__debug__" : Str)) = false := by decide) (he : starEach (e :: es) X.env = (false, eval e X.env) :: starEach es X.env := by rfl) (hpl : (backTo pos (starEach es X.env)).any (·.1) = false := by rfl) :
  PE X (.Call (.Name x p) (e :: es) [] pos) (Ji C sp dvs E t) := by
 intro pins s σ H Q I h
 refine wpAny_Call_Name_kw (xT I hg hm ?_ hdb)
 refine callWith_K (h₀ := X.base) I.ok.mod.kin M.kp (thn (ha pos pins s σ H _ I h) fun us s1 ⟨vs, H1, I1, r, q⟩ => ⟨I1.kIn, ?_⟩) he hpl
 exact Fo M F hr hb hd hx I1 r q
end
section
variable {X : Cx} {CX : CXT} {k : Nat} {f C : Addr} {fd : FuncData} {ps ks : List Str} {sp : Sp} {E : XK} {x m : Str} {p pos apos kpos : Pos} {e o : Expr} {es : List Expr} {kws : List Keyword} {te ta : TE} {t tk : TA} {nm : Option Str}
variable {g : List Value -> List Value -> List Value} {gV : List V -> List V -> List V}
end
structure aH (N P : List Str) (sc : Scope) : Prop where
 kind : sc.kind = .function
 co : sc.isCoroutine = false
 gen : sc.isGenerator = false
 nd : N.Nodup
 pre : N.take P.length = P
 par : ∀ x ∈ P, sc.names.lookup x = some .local \/ sc.names.lookup x = some .cell
 nofree : ∀ y ∈ sc.names, y.2 ≠ .free
theorem vA {kindOf : Str -> Option NameKind} {x : Str} : ∀ {binds : List (Str × Value)} {m : MG}, (∀ v, (x, v) ∉ binds) -> bindL kindOf binds m x = m x
 | [], _, _ => rfl
 | (n, v) :: r, m, h => by
  unfold bindL
  rw [vA fun w hw => h w (mem_cons_of_mem _ hw)]
  split
  ·have : x ≠ n := by rintro rfl; exact h v mem_cons_self
   simp [this]
  ·rfl
theorem uZ {kindOf : Str -> Option NameKind} {x : Str} : ∀ {binds : List (Str × Value)} {m : MG}, (∀ v, (x, v) ∉ binds) -> bindC kindOf binds m x = m x
 | [], _, _ => rfl
 | (n, v) :: r, m, h => by
  unfold bindC
  rw [uZ fun w hw => h w (mem_cons_of_mem _ hw)]
  split
  ·rfl
  ·have : x ≠ n := by rintro rfl; exact h v mem_cons_self
   simp [this]
theorem vQ {kindOf : Str -> Option NameKind} {x : Str} {v : Value} : ∀ {P : List Str} {vs : List Value} {i : Nat} {m : MG}, P.Nodup -> P[i]? = some x -> vs[i]? = some v -> kindOf x = some .local ->
  bindL kindOf (P.zip vs) m x = some v
 | [], _, _, _, _, h, _, _ => by simp at h
 | _ :: _, [], _, _, _, _, h, _ => by simp at h
 | p :: P, w :: vs, 0, m, nd, h1, h2, hk => by
  simp at h1 h2; subst h1; subst h2
  show bindL kindOf ((p, w) :: P.zip vs) m p = _
  unfold bindL
  rw [vA fun v hv => (nodup_cons.mp nd).1 (List.of_mem_zip hv).1, if_pos hk]
  simp
 | p :: P, w :: vs, i + 1, m, nd, h1, h2, hk => by
  show bindL kindOf ((p, w) :: P.zip vs) m x = _
  unfold bindL
  exact vQ (i := i) (nodup_cons.mp nd).2 (by simpa using h1) (by simpa using h2) hk
theorem vL {kindOf : Str -> Option NameKind} {x : Str} {v : Value} : ∀ {P : List Str} {vs : List Value} {i : Nat} {m : MG}, P.Nodup -> P[i]? = some x -> vs[i]? = some v -> kindOf x ≠ some .local ->
  bindC kindOf (P.zip vs) m x = some v
 | [], _, _, _, _, h, _, _ => by simp at h
 | _ :: _, [], _, _, _, _, h, _ => by simp at h
 | p :: P, w :: vs, 0, m, nd, h1, h2, hk => by
  simp at h1 h2; subst h1; subst h2
  show bindC kindOf ((p, w) :: P.zip vs) m p = _
  unfold bindC
  rw [uZ fun v hv => (nodup_cons.mp nd).1 (List.of_mem_zip hv).1, if_neg hk]
  simp
 | p :: P, w :: vs, i + 1, m, nd, h1, h2, hk => by
  show bindC kindOf ((p, w) :: P.zip vs) m x = _
  unfold bindC
  exact vL (i := i) (nodup_cons.mp nd).2 (by simpa using h1) (by simpa using h2) hk
def start (N : List Str) (vs : List V) : St := vs.map some ++ List.replicate (N.length - vs.length) none
def Ar (CX : CXT) (P : Program) (w : World) (K : Frag) (mg : MG) (base : Heap) (N : List Str) (qual : Str) (scope : Scope) (f : Addr) (cd : Value) (A : Around) (outer : List Env) (s : Shared) (H : Hp) (E : XK) : Cx where
 prog := P
 w := w
 K := K
 mg := mg
 base := base
 A := A.deeper (envOfC qual scope s.heap.objs.size f cd)
 N := N
 s₀ := s
 H₀ := H
 env := envOfC qual scope s.heap.objs.size f cd
 outer := outer
 stack := envOfC qual scope s.heap.objs.size f cd :: outer
 ex := []
 calm := true
 fn := fun _ => true
 pn := []
 xe := fun e s' => wpAny (model P w) (A.deeper (envOfC qual scope s.heap.objs.size f cd)) («leaving» (envOfC qual scope s.heap.objs.size f cd) e) (fun _ s'' => CX outer H s E e s'') (fun e' s'' => CX outer H s E e' s'') s'
theorem yr {sc : Scope} {n : Nat} {x : Str} (h : sc.names.lookup x = some .cell) : ∃ c, (cellsFrom n sc.names []).lookup x = some c := by
 have q := PySem.W.cellsFrom_some sc.names n [] (.inl h)
 exact Option.isSome_iff_exists.mp q
theorem Dh {CX : CXT} {P : Program} {w : World} {K : Frag} {mg : MG} {base : Heap} {N ps : List Str} {qual : Str} {scope : Scope} {f : Addr} {cd : Value} {A : Around} {outer : List Env} {s s1 : Shared} {H : Hp} {E : XK} {us : List Value} {vs : List V}
  (S : aH N ps scope) (hd : A.handled = none) (e0 : zV P w K mg base A outer s H) (hl : vs.length = ps.length) (r : Vals vs us)
  (x : InCallC s s.heap.objs.size (bindL (envOfC qual scope s.heap.objs.size f cd).kindOf (ps.zip us) fun _ => none) (cellsFrom (s.heap.objs.size + 1) scope.names []) (bindC (envOfC qual scope s.heap.objs.size f cd).kindOf (ps.zip us) fun _ => none) s1) :
  Inv (Ar CX P w K mg base N qual scope f cd A outer s H E) [] (start N vs) H s1 := by
 have hpl : ps.length <= N.length := by have := congrArg List.length S.pre; rw [length_take] at this; omega
 obtain ⟨h1, tk, rfl, hk⟩ := x.done
 have noA : ∀ b : Addr, b ∉ (Ar CX P w K mg base N qual scope f cd A outer s H E).ex := fun b z => absurd (show b ∈ ([] : List Addr) from z) Z2
 refine ⟨⟨e0.mod, S.kind, rfl, rfl, le_refl _, fun y z c h1 h2 => ?_, fun y hy => ?_, fun y c _ h => ?_, fun _ => hd, Around.frames_deeper e0.frames, .inr ⟨rfl, rfl⟩, fun b z => absurd z (noA b), e0.bs, e0.bsz, fun b _ _ => noA b, fun b z => absurd z (noA b), e0.funs, e0.frf⟩,
  rfl, e0.bare, Un.kept hk, ⟨_, x.toInCall.ns, fun i y v h1 h2 h3 => ?_⟩, fun y c h => ⟨_, x.cell y c h⟩, e0.hok.fresh (le_refl _), fun y c h => ?_, fun p hp => absurd (show p ∈ ([] : OP) from hp) Z2, e0.hok.kept hk, ?_⟩
 ·exact name_of_addr x.apart (PySem.mem_of_lookup h1) (PySem.mem_of_lookup h2)
 ·have hy : scope.names.lookup y = some .cell \/ scope.names.lookup y = some .free := hy
  rcases hy with hy | hy
  ·exact yr hy
  ·exact absurd rfl (S.nofree _ (PySem.mem_of_lookup hy))
 ·exact le_of_lt (x.above y c (PySem.mem_of_lookup h))
 ·have hi : i < vs.length := by
   unfold start at h2
   by_cases hi : i < vs.length
   ·exact hi
   ·rw [getElem?_append_right (by simpa using hi)] at h2
    rw [List.getElem?_replicate] at h2
    split at h2 <;> cases h2
  have ha : vs[i]? = some v := by
   unfold start at h2
   rw [getElem?_append_left (by simpa using hi), getElem?_map] at h2
   cases e : vs[i]? with
   | none => rw [e] at h2; cases h2
   | some a => rw [e] at h2; cases h2; rfl
  obtain ⟨u, hu, rv⟩ := r.get ha
  have hp : ps[i]? = some y := by
   rw [<- S.pre, List.getElem?_take_of_lt Z1]; exact h1
  have ndP : ps.Nodup := by rw [<- S.pre]; exact S.nd.sublist (List.take_sublist _ _)
  refine ⟨u, rv, ?_⟩
  rcases S.par y (mem_of_getElem? hp) with k | k
  ·exact .inl ⟨k, vQ ndP hp hu k⟩
  ·obtain ⟨c, e⟩ := yr (n := s.heap.objs.size + 1) k
   refine .inr ⟨.inl k, c, e, ?_⟩
   have q := x.cell y c e
   rw [vL ndP hp hu (by show scope.names.lookup y ≠ _; rw [k]; decide)] at q
   exact q
 ·exact e0.hok.fresh (le_of_lt (x.above y c (PySem.mem_of_lookup h)))
 ·unfold start
  show _ = N.length
  rw [length_append, length_map, List.length_replicate]
  omega
theorem KN {CX : CXT} {P : Program} {w : World} {K : Frag} {mg : MG} {base : Heap} {k : Nat} {f : Addr} {name qual : Str} {params : Arguments} {body : List Stmt} {scope : Scope} {dV kV doc pm cdv ct oc : Value} {an od : Option Addr}
  {osl : Array (Option Value)} {N ps : List Str} {sp : Sp} (lk : K.lookup f = some ⟨oc, od, .func (fnOf name qual params body scope dV kV doc pm an cdv ct), osl⟩) (hcd : codeIn K cdv qual = true) (S : aH N ps scope)
  (len : ∀ vs H Q E, sp vs H Q E -> vs.length = ps.length)
  (hbody : ∀ (A : Around) (outer : List Env) (s : Shared) (H : Hp) (vs : List V) (Q : VK) (E : XK), aR k (A.deeper (envOfC qual scope s.heap.objs.size f cdv)) -> sp vs H Q E ->
   ∃ t, PSs (Ar CX P w K mg base N qual scope f cdv A outer s H E) body t /\ t { nx := fun _ H' => Q .non H', rt := Q } (start N vs) H) :
  aG P w K mg base CX (k + 1) f (fnOf name qual params body scope dV kV doc pm an cdv ct) ps sp := by
 refine ⟨len, fun A outer s H args us vs Q E hr e0 hb r hsp => ?_⟩
 have hl := len _ _ _ _ hsp
 have KX : K.In s.heap := e0.mod.kin.keeps fun b o e => (e0.bs b o e).1
 have lim : s.heap.NoLimit := e0.mod.nolimit.keeps fun b o e => (e0.bs b o e).1
 have hkind : ∀ y ∈ ps.zip us, scope.names.lookup y.1 = some .local \/ (scope.names.lookup y.1 = some .cell /\ ((cellsFrom (s.heap.objs.size + 1) scope.names []).lookup y.1).isSome = true) := fun ⟨n, v⟩ hy => by
  rcases S.par n (List.of_mem_zip hy).1 with q | q
  ·exact .inl q
  ·exact .inr ⟨q, PySem.W.cellsFrom_some _ _ _ (.inl q)⟩
 refine codeAny_call_function hr.depth (KX _ _ lk) rfl S.co S.gen rfl (PySem.W.codeRec_of KX hcd) (hb _ _ _ _ ?_)
 refine wpAny_newFunctionEnv_cells S.kind hkind fun env he s1 x => ?_
 subst he
 refine ⟨lim.keeps x.toInCall.keep, codeAny_func ?_⟩
 obtain ⟨t, ht, hq⟩ := hbody A outer s H vs Q E (hr.deeper _) hsp
 have I : Inv (Ar CX P w K mg base N qual scope f cdv A outer s H E) [] (start N vs) H s1 := Dh S hr.hd e0 hl r x
 refine wpAny_mono (ht [] s1 (start N vs) H _ I hq) (fun fl s' hs => ?_) fun e s' hs => hs
 have fin : ∀ {σ' : St} {H' : Hp} {v : V} {u : Value}, Inv (Ar CX P w K mg base N qual scope f cdv A outer s H E) [] σ' H' s' -> RelV v u -> Q v H' -> CE outer P w H s Q u s' :=
  fun {σ' H' v u} J rv q => ⟨v, H', J.os, J.bare, J.base, J.hok, rv, q⟩
 cases fl with
 | ret u =>
  obtain ⟨v, σ', H', J, rv, q⟩ := hs
  exact fin J rv q
 | next =>
  obtain ⟨σ', H', J, q⟩ := hs
  exact fin (v := V.non) (u := Value.none) J rfl q
 | brk =>
  obtain ⟨_, _, _, q⟩ := hs
  exact False.elim q
 | cont =>
  obtain ⟨_, _, _, q⟩ := hs
  exact False.elim q
section
variable {X : Cx} {x : Str} {p pos : Pos} {e : Expr} {es : List Expr} {t : TA} {id T : String} {r : List V -> Hp -> VK -> Prop}
def tCB (r : List V -> Hp -> VK -> Prop) (t : TA) : TE := fun σ H Q => t σ H fun vs H1 => r vs H1 Q
theorem bf (hc : jg X (.builtin id) r) (hg : Gl X x) (hm : X.mg x = none) (hv : bootBuiltins x = some (.builtin id)) (ha : PA X (e :: es) t) (hn : x ≠ "__name__" := by decide) (hdb : (x == ("__debug__" : Str)) = false := by decide)
  (he : starEach (e :: es) X.env = (false, eval e X.env) :: starEach es X.env := by rfl) (hpl : (backTo pos (starEach es X.env)).any (·.1) = false := by rfl) : PE X (.Call (.Name x p) (e :: es) [] pos) (tCB r t) := by
 intro pins s σ H Q I h
 refine wpAny_Call_Name_kw (qQ I hg hm hv ?_ hn hdb)
 exact PyProof.Rows.callWith_builtin1 (thn (ha pos pins s σ H _ I h) fun us s1 ⟨vs, H1, I1, r1, q1⟩ => hc pins s1 σ H1 vs us Q I1 r1 q1) he hpl
theorem cA (hc : jg X (.type T) r) (hg : Gl X x) (hm : X.mg x = none) (hv : bootBuiltins x = some (.type T)) (ha : PA X (e :: es) t) (hn : x ≠ "__name__" := by decide) (hdb : (x == ("__debug__" : Str)) = false := by decide)
  (he : starEach (e :: es) X.env = (false, eval e X.env) :: starEach es X.env := by rfl) (hpl : (backTo pos (starEach es X.env)).any (·.1) = false := by rfl) : PE X (.Call (.Name x p) (e :: es) [] pos) (tCB r t) := by
 intro pins s σ H Q I h
 refine wpAny_Call_Name_kw (qQ I hg hm hv ?_ hn hdb)
 exact PyProof.Rows.callWith_type1 (thn (ha pos pins s σ H _ I h) fun us s1 ⟨vs, H1, I1, r1, q1⟩ => hc pins s1 σ H1 vs us Q I1 r1 q1) he hpl
end
end L2
namespace HT
open PySem PyProof.Rows
section
open PySem.SeqAt
open PySem.AutoSeq1 (wpAny_loadPart')
open PySem.MeetsSeq PySem.MeetsSeq2 PySem.MeetsSeq3
end
section
variable {prog : Program} {w : World} {A : Around} {E : EV} {s : Shared}
def sIx (n d : Nat) : Option Int -> Nat
 | none => d
 | some v => if v < 0 then (v + (n : Int)).toNat else min v.toNat n
theorem sIx_none (n d : Nat) : sIx n d none = d := rfl
theorem sIx_nat (n d k : Nat) : sIx n d (some (k : Int)) = min k n := by
 show (if (k : Int) < 0 then ((k : Int) + (n : Int)).toNat else min (k : Int).toNat n) = min k n
 rw [if_neg Z1, Int.toNat_natCast]
theorem JZ (n d : Nat) (hd : d <= n) (o : Option Int) : sIx n d o <= n := by
 cases o with
 | none => exact hd
 | some v =>
  show (if v < 0 then (v + (n : Int)).toNat else min v.toNat n) <= n
  by_cases hv : v < 0
  ·rw [if_pos hv]; omega
  ·rw [if_neg hv]; exact Nat.min_le_right _ _
theorem Bx (v : Int) (n d : Nat) : (if v < 0 then max (v + (n : Int)) 0 else min v (n : Int)) = ((sIx n d (some v) : Nat) : Int) := by
 show (if v < 0 then max (v + (n : Int)) 0 else min v (n : Int)) = (((if v < 0 then (v + (n : Int)).toNat else min v.toNat n) : Nat) : Int)
 by_cases hv : v < 0
 ·simp only [if_pos hv]; omega
 ·simp only [if_neg hv]; omega
theorem zJ (lo hi : Option Int) (n : Nat) : Builtin.Slice.sliceAdjust lo hi 1 (n : Int) = (((sIx n 0 lo : Nat) : Int), ((sIx n n hi : Nat) : Int)) := by
 have h1 : ¬ ((1 : Int) < 0) := by omega
 unfold Builtin.Slice.sliceAdjust
 simp only [h1, if_false]
 refine Prod.ext ?_ ?_
 ·cases lo with
  | none => rfl
  | some v => exact Bx v n 0
 ·cases hi with
  | none => rfl
  | some v => exact Bx v n n
theorem zH (i j : Nat) : Builtin.Slice.slicePlaces (i : Int) (j : Int) 1 = j - i := by
 unfold Builtin.Slice.slicePlaces
 have h1 : (1 : Int) > 0 := by omega
 simp only [h1, if_true, Int.ediv_one]
 split <;> omega
theorem tV {v : Value} {o : Option Int} {Q : Option Int -> Shared -> Prop} (p : IsPart v o) (h : Q o s) : wpAny (model prog w) A (Builtin.Slice.slicePartIndex v) Q E s := by
 cases p with
 | none => exact slicePart_none h
 | int i t => exact slicePart_int h
theorem qZ {sl : Addr} {vl vu : Value} {lo hi : Option Int} {n : Nat} {Q : Int × Int × Nat -> Shared -> Prop} (hs : s.heap.IsSliceOf sl vl vu .none) (pl : IsPart vl lo) (pu : IsPart vu hi)
  (h : Q (((sIx n 0 lo : Nat) : Int), 1, sIx n n hi - sIx n 0 lo) s) : wpAny (model prog w) A (Builtin.Slice.sliceApplied (.ref sl) (pure (n : Int))) Q E s := by
 obtain ⟨os, hos, hcs, hds⟩ := id hs
 unfold Builtin.Slice.sliceApplied Builtin.Slice.sliceFields
 refine wpAny_bind (wpAny_bind (wpAny_field hos hds (x := vl) rfl (wpAny_bind (wpAny_field hos hds (x := vu) rfl (wpAny_bind (wpAny_field hos hds (x := .none) rfl (wpAny_pure ?_)))))))
 refine wpAny_bind (slicePart_none ?_)
 show wpAny _ _ (if ((1 : Int) == 0) = true then _ else _) _ _ s
 rw [if_neg Z0]
 refine wpAny_bind (tV pl (wpAny_bind (tV pu (wpAny_bind (wpAny_pure ?_)))))
 show wpAny _ _ (match Builtin.Slice.sliceAdjust lo hi 1 (n : Int) with | (lo, hi) => pure (lo, (1 : Int), Builtin.Slice.slicePlaces lo hi 1)) _ _ s
 rw [zJ lo hi n]
 show wpAny _ _ (pure (((sIx n 0 lo : Nat) : Int), (1 : Int), Builtin.Slice.slicePlaces ((sIx n 0 lo : Nat) : Int) ((sIx n n hi : Nat) : Int) 1)) _ _ s
 rw [zH]
 exact wpAny_pure h
theorem Ea (xs : Array Value) (i k : Nat) : ((List.range k).filterMap fun (m : Nat) => xs[((i : Int) + (m : Int) * 1).toNat]?).toArray = ((xs.toList.drop i).take k).toArray := by
 have e : (fun (m : Nat) => xs[((i : Int) + (m : Int) * 1).toNat]?) = fun m => xs[i + m]? := by
  funext m
  have : ((i : Int) + (m : Int) * 1).toNat = i + m := by omega
  rw [this]
 rw [e]
 have := pick_run xs i k
 rw [List.filterMap_map] at this
 have e2 : ((fun x => xs[x]?) ∘ fun x => i + x) = fun m => xs[i + m]? := rfl
 rw [e2] at this
 rw [this]
theorem getItem_tuple_cut {t sl : Addr} {items : Array Value} {vl vu : Value} {lo hi : Option Int} {Q : EV} (ht : IsTup s.heap t items) (hs : s.heap.IsSliceOf sl vl vu .none) (pl : IsPart vl lo) (pu : IsPart vu hi)
  (hw : ¬ (sIx items.size 0 lo = 0 /\ sIx items.size items.size hi = items.size))
  (h : Q (.ref s.heap.objs.size) { s with heap := s.heap.push { cls := .type "tuple", data := .seq ((items.toList.drop (sIx items.size 0 lo)).take (sIx items.size items.size hi - sIx items.size 0 lo)).toArray } })
  (hsz : items.size <= sizeLine) : wpAny (model prog w) A (getItem (.ref t) (.ref sl)) Q E s := by
 have htake : sizeOk (.seq ((items.toList.drop (sIx items.size 0 lo)).take (sIx items.size items.size hi - sIx items.size 0 lo)).toArray) := by
  show ((items.toList.drop (sIx items.size 0 lo)).take (sIx items.size items.size hi - sIx items.size 0 lo)).toArray.size <= sizeLine
  rw [size_toArray, length_take, length_drop, length_toList]
  omega
 have hj : sIx items.size items.size hi <= items.size := JZ _ _ (le_refl _) hi
 obtain ⟨os, hos, hcs, hds⟩ := id hs
 have hTs : s.TypeIs (.ref sl) "slice" := ⟨os, hos, hcs⟩
 unfold getItem
 try with_reducible refine wpAny_holding ?_
 first | refine wpAny_bind (wpAny_pure ?_) | skip
 refine wpAny_bind (wpAny_sequenceKey ht.typeIs Z0 ?_)
 refine wpAny_bind (wpAny_callSpecial?_slot (name := Str.ofString "__getitem__") ht.typeIs PyProof.Rows.slot_tuple_getitem
  (wpAny_call_entry PyProof.Rows.slot_tuple_getitem ht.typeIs entry_tuple_getitem ?_ (args_tuple_getitem _ _)))
 show wpAny _ _ (Builtin.Tuple.tupleItemsOf (.ref t) >>= _) _ _ s
 refine wpAny_bind (tupleItemsOf_ ht ?_)
 refine wpAny_bind (wpAny_typeOf hTs ?_)
 rw [if_pos Z0]
 refine wpAny_bind (qZ hs pl pu ?_)
 have hno : ¬ ((((sIx items.size 0 lo : Nat) : Int) == 0 && (1 : Int) == 1 && (sIx items.size items.size hi - sIx items.size 0 lo) == items.size) = true) := by
  intro q
  rw [and_eq_true, and_eq_true] at q
  have q1 : ((sIx items.size 0 lo : Nat) : Int) = 0 := eq_of_beq q.1.1
  have q2 : sIx items.size items.size hi - sIx items.size 0 lo = items.size := eq_of_beq q.2
  exact hw ⟨Z1, Z1⟩
 show wpAny _ _ (if (((sIx items.size 0 lo : Nat) : Int) == 0 && (1 : Int) == 1 && (sIx items.size items.size hi - sIx items.size 0 lo) == items.size) = true then _ else _) _ _ s
 rw [if_neg hno, Ea]
 first
  | exact wpAny_bind (m := Builtin.Tuple.tupleExact _) (wpAny_newObj_type (wpAny_pure ⟨_, rfl, wpAny_pure h⟩) htake)
  | exact wpAny_bind (m := Builtin.Tuple.tupleExact _) (wpAny_newObj_type (wpAny_bind (wpAny_pure (wpAny_pure ⟨_, rfl, wpAny_pure h⟩))) htake)
  | exact wpAny_bind (wpAny_bind (m := Builtin.Tuple.tupleExact _) (wpAny_newObj_type (wpAny_pure (wpAny_pure ⟨_, rfl, wpAny_pure h⟩)) htake))
  | exact wpAny_bind (wpAny_bind (m := Builtin.Tuple.tupleExact _) (wpAny_newObj_type (wpAny_pure ⟨_, rfl, wpAny_pure h⟩) htake))
end
end HT
namespace L2
open PySem PySem.Spec PyProof.Rows
abbrev TO := St -> Hp -> (Option Int -> Hp -> Prop) -> Prop
def PO (X : Cx) (e : Option Expr) (t : TO) : Prop :=
 ∀ (pins : OP) (s : Shared) (σ : St) (H : Hp) (Q : Option Int -> Hp -> Prop), Inv X pins σ H s -> t σ H Q ->
  wpAny (model X.prog X.w) X.A (evalPart e X.env) (fun u s' => ∃ o H', Inv X pins σ H' s' /\ IsPart u o /\ Q o H') X.xe s
def HS : TO := fun _ H Q => Q none H
def Lh (t : TE) : TO := fun σ H Q => t σ H fun x H1 => ∃ i, x = .int i /\ Q (some i) H1
section
variable {X : Cx} {e : Expr} {te : TE} {lo hi : Option Expr} {tl th : TO} {pos p2 : Pos}
theorem ju : PO X none HS := by
 intro pins s σ H Q I h
 rw [evalPart_none]
 exact wpAny_pure ⟨none, H, I, .none, h⟩
theorem jw (h : PE X e te) : PO X (some e) (Lh te) := by
 intro pins s σ H Q I hw
 rw [evalPart_some]
 refine thn (h pins s σ H _ I hw) fun u s1 ⟨x, H1, I1, r1, q1⟩ => ?_
 obtain ⟨i, rfl, q⟩ := q1
 obtain ⟨t, rfl⟩ := r1
 exact ⟨some i, H1, I1, .int i t, q⟩
def SlR (X : Cx) (r : V -> Option Int -> Option Int -> Hp -> VK -> Prop) : Prop :=
 ∀ (pins : OP) (s : Shared) (σ : St) (H : Hp) (x : V) (v vl vu : Value) (lo hi : Option Int) (sl : Addr) (Q : VK), Inv X pins σ H s -> RelV x v -> s.heap.IsSliceOf sl vl vu .none -> IsPart vl lo -> IsPart vu hi -> r x lo hi H Q ->
  ∃ T id, typeLookup (.type T) "__getitem__" = pure (some (.builtin id)) /\ s.TypeIs v T /\ wpAny (model X.prog X.w) X.A (getItem v (.ref sl)) (EP X pins σ Q) X.xe s
def tSl (r : V -> Option Int -> Option Int -> Hp -> VK -> Prop) (te : TE) (tl th : TO) : TE := fun σ H Q => te σ H fun x H1 => tl σ H1 fun l H2 => th σ H2 fun u H3 => r x l u H3 Q
theorem gP {r : V -> Option Int -> Option Int -> Hp -> VK -> Prop} (hr : SlR X r) (he : PE X e te) (hl : PO X lo tl) (hu : PO X hi th) : PE X (.Subscript e (.Slice lo hi none p2) pos) (tSl r te tl th) := by
 intro pins s σ H Q I h
 refine Subscript_ (thn (he pins s σ H _ I h) fun v s1 ⟨x, H1, I1, r1, q1⟩ => ?_)
 refine wpAny_Slice (thn (hl pins s1 σ H1 _ I1 q1) fun vl s2 ⟨l, H2, I2, pl, q2⟩ => thn (hu pins s2 σ H2 _ I2 q2) fun vu s3 ⟨u, H3, I3, pu, q3⟩ => ?_)
 rw [evalPart_none]
 refine wpAny_pure ?_
 have I4 : Inv X pins σ H3 { s3 with heap := s3.heap.push { cls := .type "slice", data := .fields #[vl, vu, .none] } } := I3.kept (t' := s3.toks) fun b ob q => Heap.get?_push_of_some _ q
 obtain ⟨T, id, hT, ht, hg⟩ := hr pins { s3 with heap := s3.heap.push { cls := .type "slice", data := .fields #[vl, vu, .none] } } σ H3 x v vl vu l u s3.heap.objs.size Q I4 r1 (Heap.IsSliceOf.new ..) pl pu q3
 show wpAny (model X.prog X.w) X.A (subscriptTail e (.Slice lo hi none p2) v (.ref s3.heap.objs.size)) (EP X pins σ Q) X.xe { s3 with heap := s3.heap.push { cls := .type "slice", data := .fields #[vl, vu, .none] } }
 exact tail_any (ops := [.ref s3.heap.objs.size, v]) ht hT hg (by with_unfolding_all rfl)
def gU (xs : List V) (lo hi : Option Int) : List V := (xs.drop (HT.sIx xs.length 0 lo)).take (HT.sIx xs.length xs.length hi - HT.sIx xs.length 0 lo)
theorem rM (xs : List V) (lo hi : Option Int) : (gU xs lo hi).length <= xs.length := by
 unfold gU
 rw [length_take, length_drop]
 omega
def Mg (K : Frag) : V -> Option Int -> Option Int -> Hp -> VK -> Prop := fun x lo hi H Q => ∃ a xs, x = .ref a /\ SqT K H a xs /\
 ¬ (HT.sIx xs.length 0 lo = 0 /\ HT.sIx xs.length xs.length hi = xs.length) /\ ∀ p, H p = none -> Q (.ref p) (upd H p (.tup (gU xs lo hi)))
theorem Jt : SlR X (Mg X.K) := by
 intro pins s σ H x v vl vu lo hi sl Q I rx hs pl pu h
 obtain ⟨a, xs, rfl, hx, hw, q⟩ := h
 cases rx
 obtain ⟨its, r, ht, hz⟩ := I.tuple hx
 have hlen : its.toArray.size = xs.length := by rw [size_toArray]; exact r.length.symm
 refine ⟨"tuple", _, PyProof.Rows.slot_tuple_getitem.lookup, ht.typeIs, ?_⟩
 refine HT.getItem_tuple_cut ht hs pl pu (by rw [hlen]; exact hw) ?_ (by rw [hlen]; exact hz)
 rw [hlen]
 refine ⟨.ref s.heap.objs.size, _, I.laid (t' := s.toks) (o := .tup (gU xs lo hi)) (fun b ob q => Heap.get?_push_of_some _ q) (le_refl _) ?_, rfl, q _ (I.hok.fresh (le_refl _))⟩
 exact ⟨le_trans (rM xs lo hi) hz, _, (r.drop (HT.sIx xs.length 0 lo)).take (HT.sIx xs.length xs.length hi - HT.sIx xs.length 0 lo), IsTup.new _ _⟩
end
def ixN (n : Nat) (i : Int) : Option Nat := if 0 <= i then (if i < n then some i.toNat else none) else if -(n : Int) <= i then some (i + n).toNat else none
def atI {α : Type} (xs : List α) (i : Int) : Option α := (ixN xs.length i).bind fun j => xs[j]?
theorem Ck {n : Nat} {i : Int} {j : Nat} (h : ixN n i = some j) : seqIndex? i n = some j /\ j < n /\ -(n : Int) <= i /\ i < n := by
 unfold ixN at h
 by_cases h0 : 0 <= i
 ·rw [if_pos h0] at h
  by_cases h1 : i < n
  ·rw [if_pos h1] at h
   have e : i.toNat = j := Option.some.inj h
   exact ⟨by rw [seqIndex_of h0 h1, e], Z1, Z1, h1⟩
  ·rw [if_neg h1] at h; cases h
 ·rw [if_neg h0] at h
  by_cases h1 : -(n : Int) <= i
  ·rw [if_pos h1] at h
   have e : (i + n).toNat = j := Option.some.inj h
   exact ⟨by rw [seqIndex_neg Z1 h1, e], Z1, h1, Z1⟩
  ·rw [if_neg h1] at h; cases h
theorem wR {α : Type} {xs : List α} {i : Int} {v : α} (h : atI xs i = some v) : ∃ j, seqIndex? i xs.length = some j /\ xs[j]? = some v /\ j < xs.length /\ -(xs.length : Int) <= i /\ i < xs.length := by
 unfold atI at h
 cases e : ixN xs.length i with
 | none => rw [e] at h; cases h
 | some j =>
  rw [e] at h
  obtain ⟨h1, h2, h3, h4⟩ := Ck e
  exact ⟨j, h1, h, h2, h3, h4⟩
theorem aZ {α : Type} {xs : List α} {j : Nat} {v : α} (h : xs[j]? = some v) : atI xs (j : Int) = some v := by
 have hj : j < xs.length := (List.getElem?_eq_some_iff.mp h).1
 have e : ixN xs.length (j : Int) = some j := by
  unfold ixN
  rw [if_pos Z1, if_pos Z1]; simp
 unfold atI; rw [e]; exact h
def HN (b : Expr) : Prop := ∀ o i, subscripted b false o i = operate [o, i] (getItem o i)
def IxR (X : Cx) (r : R2) : Prop :=
 ∀ (value slice : Expr) (pins : OP) (s : Shared) (σ : St) (H : Hp) (x y : V) (v u : Value) (Q : VK), Inv X pins σ H s -> RelV x v -> RelV y u -> r x y H Q ->
  subscripted slice false v u = operate [v, u] (getItem v u) -> wpAny (model X.prog X.w) X.A (subscriptTail value slice v u) (EP X pins σ Q) X.xe s
def MtR (X : Cx) (id : String) (r : V -> List V -> Hp -> VK -> Prop) : Prop :=
 ∀ (pins : OP) (s : Shared) (σ : St) (H : Hp) (x : V) (xs : List V) (v : Value) (us : List Value) (Q : VK), Inv X pins σ H s -> RelV x v -> Vals xs us -> r x xs H Q ->
  wpAny (model X.prog X.w) X.A (call (.builtin id) (v :: us)) (EP X pins σ Q) X.xe s
section
variable {X : Cx} {a b : Expr} {ta tb : TE} {pos : Pos}
theorem bA {r : R2} (hr : IxR X r) (ha : PE X a ta) (hb : PE X b tb) (hs : HN b := by exact fun _ _ => rfl) : PE X (.Subscript a b pos) (tOp r ta tb) := by
 intro pins s σ H Q I h
 exact Subscript_ (J0 ha hb I h fun v u s2 x y H2 I2 rx ry q => hr a b pins s2 σ H2 x y v u Q I2 rx ry q (hs _ _))
def Qp (K : Frag) : R2 := fun x y H Q => ∃ p xs i v, x = .ref p /\ y = .int i /\ SqL K H p xs /\ atI xs i = some v /\ Q v H
def Lz (K : Frag) : R2 := fun x y H Q => ∃ p xs i v, x = .ref p /\ y = .int i /\ SqT K H p xs /\ atI xs i = some v /\ Q v H
def Qf : R2 := fun x y H Q => ∃ z i c, x = .str z /\ y = .int i /\ z.length <= sizeLine /\ atI z.cps.toList i = some c /\ Q (.str ⟨#[c]⟩) H
theorem bC : IxR X (Qp X.K) := by
 intro value slice pins s σ H x y v u Q I rx ry h hs
 obtain ⟨p, xs, i, z, rfl, rfl, hq, he, q⟩ := h
 cases rx
 obtain ⟨t, rfl⟩ := ry
 obtain ⟨its, r, pl, hz⟩ := I.list hq
 obtain ⟨j, h1, h2, h3, h4, h5⟩ := wR he
 obtain ⟨w, ew, rw'⟩ := r.get h2
 have hl := r.length
 have hn := ur
 have fin : EP X pins σ Q w s := ⟨z, H, I, rw', q⟩
 by_cases h0 : 0 <= i
 ·have hj : i.toNat = j := by
   rw [seqIndex_of h0 h5] at h1
   exact Option.some.inj h1
  exact item_listR pl.isList h0 Z1 (by rw [hj]; simpa using ew) fin hs
 ·have hj : (i + (its.toArray.size : Int)).toNat = j := by
   rw [seqIndex_neg Z1 h4] at h1
   rw [size_toArray, <- hl]
   exact Option.some.inj h1
  exact subscriptTail_builtinR (x := w) pl.isList.typeIs slot_list_getitem.lookup
   (wpAny_getItem_list_neg (Q := fun r s' => r = w /\ EP X pins σ Q r s') pl.isList Z1 (by rw [size_toArray] <;> omega) Z1 (by rw [hj]; simpa using ew) ⟨rfl, fin⟩) hs
theorem c7 : IxR X (Lz X.K) := by
 intro value slice pins s σ H x y v u Q I rx ry h hs
 obtain ⟨p, xs, i, z, rfl, rfl, hq, he, q⟩ := h
 cases rx
 obtain ⟨t, rfl⟩ := ry
 obtain ⟨its, r, pl, hz⟩ := I.tuple hq
 obtain ⟨j, h1, h2, h3, h4, h5⟩ := wR he
 obtain ⟨w, ew, rw'⟩ := r.get h2
 have hl := r.length
 have hn := ur
 have fin : EP X pins σ Q w s := ⟨z, H, I, rw', q⟩
 exact subscriptTail_builtinR (x := w) pl.typeIs slot_tuple_getitem.lookup
  (getItem_tuple (j := j) (Q := fun r s' => r = w /\ EP X pins σ Q r s') pl Z1 Z1 (by rw [size_toArray, <- hl]; exact h1) (by simpa using ew) ⟨rfl, fin⟩) hs
theorem DX : IxR X Qf := by
 intro value slice pins s σ H x y v u Q I rx ry h hs
 obtain ⟨z, i, c, rfl, rfl, hz, he, q⟩ := h
 obtain ⟨t, rfl⟩ := rx
 obtain ⟨t', rfl⟩ := ry
 obtain ⟨j, h1, h2, h3, h4, h5⟩ := wR he
 have hl : z.cps.toList.length = z.length := by simp [Str.length]
 rw [hl] at h1 h4 h5
 have hn := ur
 exact tail_any (typeIs_str s z t) slot_str_getitem.lookup (getItem_str (c := c) (by
  have e1 : decide (i < -(2 ^ 63 : Int)) = false := decide_eq_false Z1
  have e2 : decide (i >= 2 ^ 63) = false := decide_eq_false Z1
  rw [e1, e2, Bool.or_false]) (by rw [h1]; simpa using h2) ⟨.str ⟨#[c]⟩, H, I.tok _, ⟨_, rfl⟩, q⟩) hs
theorem Ah (its : List Value) (n j : Nat) (u : Value) : Obj.mapSeq (·.setIfInBounds j u) { cls := .type "list", data := .seq its.toArray n } = { cls := .type "list", data := .seq (its.set j u).toArray n } := by
 simp [Obj.mapSeq]
theorem Inv.lst {pins : OP} {σ : St} {H : Hp} {s : Shared} {p : Addr} {xs : List V} (I : Inv X pins σ H s) (h : H p = some (.lst xs)) :
  ∃ (its : List Value) (n : Nat), Vals xs its /\ s.heap.get? p = some { cls := .type "list", data := .seq its.toArray n } /\ xs.length <= sizeLine := by
 obtain ⟨z, its, n, r, e⟩ := I.hok p _ h
 exact ⟨its, n, r, e, z⟩
theorem Inv.lstUpd {pins : OP} {σ : St} {H : Hp} {s : Shared} {p : Addr} {xs ys : List V} {its its' : List Value} {n n' : Nat} {f : Obj -> Obj} (I : Inv X pins σ H s) (h : H p = some (.lst xs))
  (ho : s.heap.get? p = some { cls := .type "list", data := .seq its.toArray n }) (hf : f { cls := .type "list", data := .seq its.toArray n } = { cls := .type "list", data := .seq its'.toArray n' }) (r : Vals ys its') (hz : ys.length <= sizeLine) (t : Nat) :
  Inv X pins σ (upd H p (.lst ys)) { s with heap := s.heap.update p f, toks := t } := by
 have e : (s.heap.update p f).get? p = some { cls := .type "list", data := .seq its'.toArray n' } := by
  rw [Heap.get?_update_self f ho (by rw [hf] <;> rfl), hf]
 refine I.write (x := p) (e := p) (by rw [h]; trivial) (.inl rfl) (fun b u hb q => (Heap.get?_update_other _ _ (Ne.symm hb)).trans q) ⟨_, e⟩ ?_
 exact ⟨hz, its', n', r, e⟩
def Lw : V -> V -> V -> Hp -> (Hp -> Prop) -> Prop := fun o i v H Q => ∃ p xs k j, o = .ref p /\ i = .int k /\ H p = some (.lst xs) /\ ixN xs.length k = some j /\ Q (upd H p (.lst (xs.set j v)))
theorem set_list : LR X Lw := by
 intro pins s σ H o i v ov iv u Q I ro ri rv h
 obtain ⟨p, xs, k, j, rfl, rfl, hp, hj, q⟩ := h
 cases ro
 obtain ⟨t, rfl⟩ := ri
 obtain ⟨its, n, r, ho, hz⟩ := I.lst hp
 obtain ⟨h1, h2, h3, h4⟩ := Ck hj
 have hl := r.length
 have hn := ur
 have I' : Inv X pins σ (upd H p (.lst (xs.set j v))) { s with heap := s.heap.update p (Obj.mapSeq (·.setIfInBounds j u)) } :=
  I.lstUpd hp ho (Ah its n j u) (r.set rv j) (by rw [length_set]; exact hz) s.toks
 by_cases h0 : 0 <= k
 ·have hk : k.toNat = j := by
   rw [seqIndex_of h0 h4] at h1
   exact Option.some.inj h1
  exact PySem.W.ki_setAt ho h0 Z1 (by rw [size_toArray, <- hl]; exact h4) (by rw [hk]; exact ⟨_, I', q⟩)
 ·have hk : (k + (its.toArray.size : Int)).toNat = j := by
   rw [seqIndex_neg Z1 h3] at h1
   rw [size_toArray, <- hl]
   exact Option.some.inj h1
  exact PySem.W.ki_setBack ho Z1 (by rw [size_toArray, <- hl]; exact h3) Z1 (by rw [hk]; exact ⟨_, I', q⟩)
theorem wY (lo hi : Option Int) (n : Nat) : (sliceBounds lo hi none n).1 = ((HT.sIx n 0 lo : Nat) : Int) /\ (sliceBounds lo hi none n).2.1 = ((HT.sIx n n hi : Nat) : Int) /\ (sliceBounds lo hi none n).2.2 = 1 := by
 refine ⟨?_, ?_, rfl⟩
 ·cases lo with
  | none => simp [sliceBounds, HT.sIx]
  | some i =>
   simp only [sliceBounds, HT.sIx, Option.getD_none, show (1 : Int) > 0 by decide, if_true]
   by_cases h : i < 0
   ·simp only [h, if_true] <;> omega
   ·simp only [h, if_false] <;> omega
 ·cases hi with
  | none => simp [sliceBounds, HT.sIx]
  | some i =>
   simp only [sliceBounds, HT.sIx, Option.getD_none, show (1 : Int) > 0 by decide, if_true]
   by_cases h : i < 0
   ·simp only [h, if_true] <;> omega
   ·simp only [h, if_false] <;> omega
theorem uX (its : List Value) (lo hi : Option Int) : slicePick its.toArray lo hi none = ((its.drop (HT.sIx its.length 0 lo)).take (HT.sIx its.length its.length hi - HT.sIx its.length 0 lo)).toArray := by
 obtain ⟨h1, h2, h3⟩ := wY lo hi its.toArray.size
 unfold slicePick
 rw [h1, h2, h3]
 simp only [sliceRange_one, pick_run, size_toArray] <;> rfl
def KQ (K : Frag) : V -> Option Int -> Option Int -> Hp -> VK -> Prop := fun x lo hi H Q => ∃ a xs, x = .ref a /\ SqL K H a xs /\ ∀ p, H p = none -> Q (.ref p) (upd H p (.lst (gU xs lo hi)))
theorem mK : SlR X (KQ X.K) := by
 intro pins s σ H x v vl vu lo hi sl Q I rx hs pl pu h
 obtain ⟨a, xs, rfl, hx, q⟩ := h
 cases rx
 obtain ⟨its, r, ht, hz⟩ := I.list hx
 have hlen := r.length
 refine ⟨"list", _, slot_list_getitem.lookup, ht.isList.typeIs, ?_⟩
 refine wpAny_getItem_list_slice ht.isList hs pl pu .none Z2 ?_ (by rw [size_toArray] <;> omega)
 rw [uX, <- hlen]
 refine ⟨.ref s.heap.objs.size, _, I.laid (t' := s.toks) (o := .lst (gU xs lo hi)) (fun b ob q => Heap.get?_push_of_some _ q) (le_refl _) ?_, rfl, q _ (I.hok.fresh (le_refl _))⟩
 exact ⟨le_trans (rM xs lo hi) hz, _, 0, (r.drop (HT.sIx xs.length 0 lo)).take (HT.sIx xs.length xs.length hi - HT.sIx xs.length 0 lo), Heap.get?_push_size _ rfl⟩
def mj : V -> Bool
 | .non => true
 | .bl _ => true
 | .int _ => true
 | .str _ => true
 | _ => false
def eqV : V -> V -> Bool
 | .non, .non => true
 | .bl a, .bl b => a == b
 | .bl a, .int b => (if a then 1 else 0) == b
 | .int a, .bl b => a == (if b then 1 else 0)
 | .int a, .int b => a == b
 | .str a, .str b => a == b
 | _, _ => false
theorem Jv {A : Around} {s : Shared} {y x : V} {u v : Value} (ry : RelV y u) (rx : RelV x v) (fy : mj y = true) (fx : mj x = true) : SeqAt.EqAt A s u v (eqV y x) := by
 cases y with
 | non =>
  cases ry
  cases x with
  | non => cases rx; exact SeqAt.EqAt.same _
  | bl b => cases rx; exact SeqAt.EqAt.none_bool b
  | int b => obtain ⟨t, rfl⟩ := rx; exact SeqAt.EqAt.none_int b t
  | str b => obtain ⟨t, rfl⟩ := rx; exact SeqAt.EqAt.none_str b t
  | _ => exact absurd (show false = true from fx) Bool.false_ne_true
 | bl a =>
  cases ry
  cases x with
  | non => cases rx; exact SeqAt.EqAt.bool_none a
  | bl b => cases rx; exact SeqAt.EqAt.bool_bool a b
  | int b => obtain ⟨t, rfl⟩ := rx; exact SeqAt.EqAt.bool_int a b t
  | str b => obtain ⟨t, rfl⟩ := rx; exact SeqAt.EqAt.bool_str a b t
  | _ => exact absurd (show false = true from fx) Bool.false_ne_true
 | int a =>
  obtain ⟨t', rfl⟩ := ry
  cases x with
  | non => cases rx; exact SeqAt.EqAt.int_none a t'
  | bl b => cases rx; exact SeqAt.EqAt.int_bool a t' b
  | int b => obtain ⟨t, rfl⟩ := rx; exact SeqAt.EqAt.int_int a t' b t
  | str b => obtain ⟨t, rfl⟩ := rx; exact SeqAt.EqAt.int_str a t' b t
  | _ => exact absurd (show false = true from fx) Bool.false_ne_true
 | str a =>
  obtain ⟨t', rfl⟩ := ry
  cases x with
  | non => cases rx; exact SeqAt.EqAt.str_none a t'
  | bl b => cases rx; exact SeqAt.EqAt.str_bool a t' b
  | int b => obtain ⟨t, rfl⟩ := rx; exact SeqAt.EqAt.str_int a t' b t
  | str b => obtain ⟨t, rfl⟩ := rx; exact SeqAt.EqAt.str_str a t' b t
  | _ => exact absurd (show false = true from fx) Bool.false_ne_true
 | _ => exact absurd (show false = true from fy) Bool.false_ne_true
def eqU (x : V) (u : Value) : Bool := match u with
 | .none => eqV .non x
 | .bool b => eqV (.bl b) x
 | .int i _ => eqV (.int i) x
 | .str z _ => eqV (.str z) x
 | _ => false
theorem GJ {x y : V} {u : Value} (r : RelV y u) (f : mj y = true) : eqU x u = eqV y x := by
 cases y with
 | non => cases r; rfl
 | bl b => cases r; rfl
 | int i => obtain ⟨t, rfl⟩ := r; rfl
 | str z => obtain ⟨t, rfl⟩ := r; rfl
 | _ => exact absurd (show false = true from f) Bool.false_ne_true
theorem qg {x : V} : ∀ {xs : List V} {us : List Value}, Vals xs us -> xs.all mj = true -> us.any (eqU x) = xs.any fun y => eqV y x
 | _, _, .nil, _ => rfl
 | y :: xs, u :: us, .cons r t, f => by
  rw [List.all_cons, and_eq_true] at f
  rw [any_cons, any_cons, GJ r f.1, qg t f.2]
theorem nP {A : Around} {s : Shared} {x : V} {v : Value} (rx : RelV x v) (fx : mj x = true) : ∀ {xs : List V} {us : List Value}, Vals xs us -> xs.all mj = true -> ∀ u ∈ us, SeqAt.EqAt A s u v (eqU x u)
 | _, _, .nil, _ => fun u hu => by cases hu
 | y :: xs, u :: us, .cons r t, f => fun u' hu => by
  rw [List.all_cons, and_eq_true] at f
  rcases mem_cons.mp hu with rfl | hu
  ·rw [GJ r f.1]; exact Jv r rx f.1 fx
  ·exact nP rx fx t f.2 u' hu
def inV (x : V) (xs : List V) : Bool := xs.any fun y => eqV y x
def rIn (K : Frag) (neg : Bool) : R2 := fun x y H Q => ∃ p xs, y = .ref p /\ (SqL K H p xs \/ SqT K H p xs) /\ mj x = true /\ xs.all mj = true /\ Q (.bl (if neg then !inV x xs else inV x xs)) H
theorem qI : OpR X (compareOp .In) (rIn X.K false) := by
 intro pins s σ H x y v u Q I rx ry h
 obtain ⟨p, xs, rfl, hq, fx, fs, q⟩ := h
 cases ry
 rcases hq with hq | hq
 ·obtain ⟨its, r, pl, hz⟩ := I.list hq
  refine SeqAt.in_listAt (eqU x) pl.isList (fun w hw => nP rx fx r fs w (by simpa using hw)) ⟨.bl _, H, I, rfl, ?_⟩
  rw [show its.toArray.any (eqU x) = its.any (eqU x) by simp, qg r fs]
  exact q
 ·obtain ⟨its, r, pl, hz⟩ := I.tuple hq
  refine SeqAt.in_tupleAt (eqU x) pl (fun w hw => nP rx fx r fs w (by simpa using hw)) ⟨.bl _, H, I, rfl, ?_⟩
  rw [show its.toArray.any (eqU x) = its.any (eqU x) by simp, qg r fs]
  exact q
theorem qD : OpR X (compareOp .NotIn) (rIn X.K true) := by
 intro pins s σ H x y v u Q I rx ry h
 obtain ⟨p, xs, rfl, hq, fx, fs, q⟩ := h
 cases ry
 rcases hq with hq | hq
 ·obtain ⟨its, r, pl, hz⟩ := I.list hq
  refine SeqAt.notIn_listAt (eqU x) pl.isList (fun w hw => nP rx fx r fs w (by simpa using hw)) ⟨.bl _, H, I, rfl, ?_⟩
  rw [show its.toArray.any (eqU x) = its.any (eqU x) by simp, qg r fs]
  exact q
 ·obtain ⟨its, r, pl, hz⟩ := I.tuple hq
  refine SeqAt.notIn_tupleAt (eqU x) pl (fun w hw => nP rx fx r fs w (by simpa using hw)) ⟨.bl _, H, I, rfl, ?_⟩
  rw [show its.toArray.any (eqU x) = its.any (eqU x) by simp, qg r fs]
  exact q
theorem bJ : jg X (.builtin "len") (fun xs H Q => ∃ p ys, xs = [.ref p] /\ (SqL X.K H p ys \/ SqT X.K H p ys) /\ Q (.int ys.length) H) := by
 intro pins s σ H xs us Q I r h
 obtain ⟨p, ys, rfl, hq, q⟩ := h
 obtain ⟨u, rfl, rx⟩ := vals1 r
 cases rx
 have hn := ur
 rcases hq with hq | hq
 ·obtain ⟨its, r', pl, hz⟩ := I.list hq
  have hlen := r'.length
  exact Calls.call_len_list pl.isList (by simp only [size_toArray] <;> omega) ⟨.int ys.length, H, I.tok _, ⟨s.toks + 1, by rw [size_toArray, hlen]⟩, q⟩
 ·obtain ⟨its, r', pl, hz⟩ := I.tuple hq
  have hlen := r'.length
  exact len_tuple pl (by simp only [size_toArray] <;> omega) ⟨.int ys.length, H, I.tok _, ⟨s.toks + 1, by rw [size_toArray, hlen]⟩, q⟩
theorem cM : jg X (.type "list") (fun xs H Q => ∃ p ys, xs = [.ref p] /\ (SqL X.K H p ys \/ SqT X.K H p ys) /\ ∀ l, H l = none -> Q (.ref l) (upd H l (.lst ys))) := by
 intro pins s σ H xs us Q I r h
 obtain ⟨p, ys, rfl, hq, q⟩ := h
 obtain ⟨u, rfl, rx⟩ := vals1 r
 cases rx
 have fin : ∀ (its : List Value), Vals ys its -> ys.length <= sizeLine -> ∀ (h' : Heap) (c' : Nat), (∀ b o', s.heap.get? b = some o' -> h'.get? b = some o') ->
   h'.get? s.heap.objs.size = some { cls := .type "list", dict := none, data := .seq its.toArray c', slots := #[] } -> EP X pins σ Q (.ref s.heap.objs.size) { s with heap := h' } := fun its r' hz h' c' kp e =>
  ⟨.ref s.heap.objs.size, _, I.laid (t' := s.toks) kp (le_refl _) (show bM X.prog X.w _ h' _ (.lst ys) from ⟨hz, its, c', r', e⟩), rfl, q _ (I.hok.fresh (le_refl _))⟩
 rcases hq with hq | hq
 ·obtain ⟨its, r', pl, hz⟩ := I.list hq
  have hlen := r'.length
  obtain ⟨o, ho, hc, n, hd⟩ := pl.isList
  exact call_list_seq p (.inl rfl) ho hc hd (fun h' c' kp e => fin its r' hz h' c' kp e) (by simp only [size_toArray] <;> omega)
 ·obtain ⟨its, r', pl, hz⟩ := I.tuple hq
  have hlen := r'.length
  obtain ⟨o, ho, hc, n, hd⟩ := pl
  exact call_list_seq p (.inr rfl) ho hc hd (fun h' c' kp e => fin its r' hz h' c' kp e) (by simp only [size_toArray] <;> omega)
def tyV (K : Frag) (T : String) (x : V) (H : Hp) : Prop := match x with
 | .str _ => T = "str"
 | .int _ => T = "int"
 | .ref p => (T = "list" /\ ∃ xs, SqL K H p xs) \/ (T = "tuple" /\ ∃ o, K.lookup p = some o /\ o.cls = .type "tuple" /\ o.dict = none) \/
   (T = "dict" /\ ((∃ kvs, H p = some (.dK kvs)) \/ ∃ kvs, H p = some (.dT kvs))) \/ (T = "set" /\ ∃ S n, H p = some (.set S n))
 | _ => False
theorem Gp {pins : OP} {σ : St} {H : Hp} {s : Shared} {T : String} {x : V} {v : Value} (I : Inv X pins σ H s) (r : RelV x v) (ty : tyV X.K T x H) :
  s.TypeIs v T /\ ∀ a, v = .ref a -> ∃ ob, s.heap.get? a = some ob /\ ob.dict = none := by
 cases x with
 | str z =>
  obtain ⟨t, rfl⟩ := r
  cases (show T = "str" from ty)
  exact ⟨typeIs_str s z t, fun _ e => nomatch e⟩
 | int i =>
  obtain ⟨t, rfl⟩ := r
  cases (show T = "int" from ty)
  exact ⟨typeIs_int s i t, fun _ e => nomatch e⟩
 | ref p =>
  cases r
  rcases ty with ⟨rfl, xs, hq⟩ | ⟨rfl, o, hk, hc, hd⟩ | ⟨rfl, hk⟩ | ⟨rfl, S, n, hk⟩
  ·obtain ⟨its, _, pl, _⟩ := I.list hq
   refine ⟨pl.isList.typeIs, fun a e => ?_⟩
   cases e
   obtain ⟨o, n, e, c, hd, _⟩ := pl
   exact ⟨o, e, hd⟩
  ·refine ⟨⟨o, I.kIn p o hk, hc⟩, fun a e => ?_⟩
   cases e
   exact ⟨o, I.kIn _ o hk, hd⟩
  ·have z : ∃ o, s.heap.get? p = some o /\ o.ExactDict := by
    rcases hk with ⟨kvs, hk⟩ | ⟨kvs, hk⟩
    ·obtain ⟨_, _, _, _, o, _, _, e, ex, _⟩ := I.hok p _ hk
     exact ⟨o, e, ex⟩
    ·obtain ⟨_, _, _, _, o, _, _, e, ex, _⟩ := I.hok p _ hk
     exact ⟨o, e, ex⟩
   obtain ⟨o, e, ex⟩ := z
   refine ⟨⟨o, e, ex.1⟩, fun a e2 => ?_⟩
   cases e2
   exact ⟨o, e, ex.2.1⟩
  ·obtain ⟨o, _, _, _, e, ex, _⟩ := I.hok p _ hk
   refine ⟨⟨o, e, ex.1⟩, fun a e2 => ?_⟩
   cases e2
   exact ⟨o, e, ex.2.1⟩
 | _ => exact False.elim ty
def PL (K : Frag) (T : String) (r : V -> List V -> Hp -> VK -> Prop) (to : TE) : TE := fun σ H Q => to σ H fun x H1 => tyV K T x H1 /\ r x [] H1 Q
def tBM (K : Frag) (T : String) (r : V -> List V -> Hp -> VK -> Prop) (to : TE) (t : TA) : TE := fun σ H Q => to σ H fun x H1 => tyV K T x H1 /\ t σ H1 fun xs H2 => r x xs H2 Q
variable {o e : Expr} {es : List Expr} {to : TE} {t : TA} {name : Str} {apos cpos : Pos} {T id : String} {r : V -> List V -> Hp -> VK -> Prop}
theorem Am (pa : PlainAttrs T) (slot : Slot T name id) (hty : typeOf (.builtin id) = pure (.type "method_descriptor")) (hm : MtR X id r) (ho : PE X o to)
  (hbase : attributeBase o name X.env (eval o X.env) = eval o X.env := by rfl) (hline : (apos.endLine == cpos.line) = true := by rfl) : PE X (.Call (.Attribute o name apos) [] [] cpos) (PL X.K T r to) := by
 intro pins s σ H Q I h
 refine wpAny_Call_method0_late hbase hline (thn (ho pins s σ H _ I h) fun v s1 ⟨x, H1, I1, r1, ty, q1⟩ => ?_)
 obtain ⟨h1, h2⟩ := Gp I1 r1 ty
 exact ⟨T, id, pa, slot, hty, h1, h2, Calls.callWith_builtin rfl (PySem.evalArgs_none (hm pins s1 σ H1 x [] v [] Q I1 r1 .nil q1))⟩
theorem eQ (pa : PlainAttrs T) (slot : Slot T name id) (hty : typeOf (.builtin id) = pure (.type "method_descriptor")) (hm : MtR X id r) (ho : PE X o to) (ha : PA X (e :: es) t)
  (hbase : attributeBase o name X.env (eval o X.env) = eval o X.env := by rfl)
  (hfew : ((backTo cpos (starEach (e :: es) X.env)).all (fun x => !x.1) && (backToKw cpos (keywordEach [] X.env)).all (fun x => x.1.isSome)
   && decide ((e :: es).length + ([] : List Keyword).length + (if ([] : List Keyword).isEmpty then 0 else 1) < 30)) = true := by rfl)
  (hline : (apos.endLine == cpos.line) = true := by rfl) (hs : starEach (e :: es) X.env = (false, eval e X.env) :: starEach es X.env := by rfl) (hplain : (backTo cpos (starEach es X.env)).any (·.1) = false := by rfl) :
  PE X (.Call (.Attribute o name apos) (e :: es) [] cpos) (tBM X.K T r to t) := by
 intro pins s σ H Q I h
 refine wpAny_Call_method_late hbase hfew hline rfl (thn (ho pins s σ H _ I h) fun v s1 ⟨x, H1, I1, r1, ty, q1⟩ => ?_)
 obtain ⟨h1, h2⟩ := Gp I1 r1 ty
 refine ⟨T, id, pa, slot, hty, h1, h2, ?_⟩
 have hA := ha cpos pins s1 σ H1 _ I1 q1
 rw [hs] at hA ⊢
 refine Calls.callWith_builtin (by show (false || (backTo cpos (starEach es X.env)).any (·.1)) = false; rw [hplain] <;> rfl) (Calls.evalArgs_plain ?_)
 exact thn hA fun us s2 ⟨vs, H2, I2, r2, q2⟩ => hm pins s2 σ H2 x vs v us Q I2 r1 r2 q2
end
def MtM (X : Cx) (id : String) (r : V -> List V -> Hp -> VK -> Prop) : Prop :=
 ∀ (pins : OP) (s : Shared) (σ : St) (H : Hp) (x : V) (xs : List V) (v : Value) (us : List Value) (Q : VK), Inv X pins σ H s -> RelV x v -> Vals xs us -> r x xs H Q ->
  wpAny (model X.prog X.w) X.A (call (.builtin id) (v :: us)) (EP X pins σ Q) X.xe s
theorem Vals.one : ∀ {x : V} {us : List Value}, Vals [x] us -> ∃ u, us = [u] /\ RelV x u
 | _, _, .cons r .nil => ⟨_, rfl, r⟩
theorem Vals.zero : ∀ {us : List Value}, Vals [] us -> us = []
 | _, .nil => rfl
theorem Vals.dropLast {xs : List V} {us : List Value} (h : Vals xs us) : Vals xs.dropLast us.dropLast := by
 induction h with
 | nil => exact .nil
 | cons r t ih =>
  cases t with
  | nil => exact .nil
  | cons q t' => exact .cons r ih
theorem Al {α : Type} (l : List α) : l.eraseIdx (l.length - 1) = l.dropLast := by
 induction l with
 | nil => rfl
 | cons a r ih =>
  cases r with
  | nil => rfl
  | cons b r =>
   have e : (a :: b :: r).length - 1 = ((b :: r).length - 1) + 1 := by
    have h1 : (a :: b :: r).length = r.length + 2 := rfl
    have h2 : (b :: r).length = r.length + 1 := rfl
    omega
   rw [e, List.eraseIdx_cons_succ, ih]
   all_goals rfl
section
variable {X : Cx} {pins : OP} {σ : St} {H : Hp} {s : Shared} {l b : Addr} {xs ys zs : List V}
theorem Inv.lset {its its' : List Value} {n : Nat} {f : Array Value -> Array Value} {t' : Nat} (I : Inv X pins σ H s) (hH : H l = some (.lst xs))
  (e : s.heap.get? l = some { cls := .type "list", data := .seq its.toArray n }) (hf : f its.toArray = its'.toArray) (hv : Vals ys its') (hz : ys.length <= sizeLine) :
  Inv X pins σ (upd H l (.lst ys)) { s with heap := s.heap.update l (Obj.mapSeq f), toks := t' } := by
 have q := PySem.IsL.update e f
 rw [hf] at q
 refine I.write (x := l) (e := l) (by rw [hH]; exact trivial) (.inl rfl) (fun b' u hb hu => (Heap.get?_update_other s.heap (Obj.mapSeq f) (Ne.symm hb)).trans hu) ⟨_, q⟩ ?_
 exact ⟨hz, its', _, hv, q⟩
theorem Inv.lnew {its : List Value} {t' : Nat} (I : Inv X pins σ H s) (hv : Vals ys its) (hz : ys.length <= sizeLine) :
  Inv X pins σ (upd H s.heap.objs.size (.lst ys)) { s with heap := s.heap.push { cls := .type "list", data := .seq its.toArray }, toks := t' } :=
 I.laid (fun _ _ q => Heap.get?_push_of_some _ q) (le_refl _) ⟨hz, its, 0, hv, Heap.get?_push_size _ rfl⟩
theorem Inv.fresh (I : Inv X pins σ H s) : H s.heap.objs.size = none := I.hok.fresh (le_refl _)
theorem Inv.lstM (I : Inv X pins σ H s) (hH : H l = some (.lst xs)) : xs.length <= sizeLine /\ ∃ (its : List Value) (n : Nat), Vals xs its /\ xs.length = its.length /\ s.heap.get? l = some { cls := .type "list", data := .seq its.toArray n } := by
 obtain ⟨z, its, n, r, e⟩ := I.hok l _ hH
 exact ⟨z, its, n, r, r.length, e⟩
end
section
variable {X : Cx}
def BW : V -> List V -> Hp -> VK -> Prop := fun x vs H Q => ∃ l xs y, x = .ref l /\ vs = [y] /\ H l = some (.lst xs) /\ xs.length < sizeLine /\ Q .non (upd H l (.lst (xs ++ [y])))
theorem bH : MtM X "list.append" BW := by
 intro pins s σ H x vs v us Q I rx rv h
 obtain ⟨l, xs, y, rfl, rfl, hH, hz, q⟩ := h
 cases rx
 obtain ⟨u, rfl, ru⟩ := rv.one
 obtain ⟨z, its, n, r, hl, e⟩ := I.lstM hH
 refine call_meets F.slot_list_append ⟨_, e, rfl⟩ F.entry_list_append (F.args_list_append_2 _ _) (PySem.list_append l its.toArray n u (by rw [size_toArray]; omega)) ⟨e, ?_⟩
 refine ⟨.non, _, I.lset (its' := its ++ [u]) hH e Z2 (r.append (.cons ru .nil)) ?_, rfl, q⟩
 rw [length_append, length_singleton]
 omega
def Pr : V -> List V -> Hp -> VK -> Prop := fun x vs H Q => ∃ l xs y, x = .ref l /\ vs = [] /\ H l = some (.lst xs) /\ xs[xs.length - 1]? = some y /\ Q y (upd H l (.lst xs.dropLast))
theorem Ku : MtM X "list.pop" Pr := by
 intro pins s σ H x vs v us Q I rx rv h
 obtain ⟨l, xs, y, rfl, rfl, hH, hy, q⟩ := h
 cases rx
 have hus := rv.zero
 subst hus
 obtain ⟨z, its, n, r, hl, e⟩ := I.lstM hH
 obtain ⟨u, hu, ru⟩ := r.get hy
 have hy' : its.toArray[its.toArray.size - 1]? = some u := by
  show its.toArray[its.length - 1]? = some u
  rw [<- Array.getElem?_toList, <- hl]
  exact hu
 refine call_meets F.slot_list_pop ⟨_, e, rfl⟩ F.entry_list_pop (F.args_list_pop_1 _) (MeetsSeq.list_pop_last l its.toArray n u hy' (by rw [size_toArray]; omega)) ⟨e, ?_⟩
 refine ⟨y, _, I.lset (its' := its.dropLast) hH e ?_ r.dropLast ?_, ru, q⟩
 ·show its.toArray.eraseIdxIfInBounds (its.toArray.size - 1) = its.dropLast.toArray
  rw [size_toArray, List.eraseIdxIfInBounds_toArray, Al]
 ·rw [List.length_dropLast]
  omega
def JX : V -> List V -> Hp -> VK -> Prop := fun x vs H Q => ∃ l xs, x = .ref l /\ vs = [] /\ H l = some (.lst xs) /\ Q .non (upd H l (.lst []))
theorem Gb : MtM X "list.clear" JX := by
 intro pins s σ H x vs v us Q I rx rv h
 obtain ⟨l, xs, rfl, rfl, hH, q⟩ := h
 cases rx
 have hus := rv.zero
 subst hus
 obtain ⟨z, its, n, r, hl, e⟩ := I.lstM hH
 refine call_meets F.slot_list_clear ⟨_, e, rfl⟩ F.entry_list_clear (F.args_list_clear_1 _) (AutoSeq1.list_clear_list_0 l its.toArray n (by rw [size_toArray]; omega)) ⟨e, ?_⟩
 exact ⟨.non, _, I.lset (its' := []) (ys := []) hH e rfl .nil (zero_le _), rfl, q⟩
def OD : R2 := fun x y H Q => ∃ l b xs zs, x = .ref l /\ y = .ref b /\ H l = some (.lst xs) /\ H b = some (.lst zs) /\ xs.length + zs.length <= sizeLine /\ ∀ p, H p = none -> Q (.ref p) (upd H p (.lst (xs ++ zs)))
theorem JM : OpR X (binaryOp .Add) OD := by
 intro pins s σ H x y v u Q I rx ry h
 obtain ⟨l, b, xs, zs, rfl, rfl, hH, hB, hz, q⟩ := h
 cases rx
 cases ry
 obtain ⟨z, its, n, r, hl, e⟩ := I.lstM hH
 obtain ⟨z2, its2, n2, r2, hl2, e2⟩ := I.lstM hB
 refine PySem.P.add_list e e2 ?_ (by rw [size_toArray, size_toArray]; omega)
 have ea : its.toArray ++ its2.toArray = (its ++ its2).toArray := by simp
 rw [ea]
 exact ⟨.ref _, _, I.lnew (t' := s.toks) (r.append r2) (by rw [length_append]; omega), rfl, q _ I.fresh⟩
end
section
variable {prog : Program} {w : World} {A : Around} {E : EV} {s : Shared}
end
section
variable {X : Cx}
end
end L2
namespace Att
open PySem PySem.W PySem.Calls PyProof.Rows
theorem rZ {P : Params} {h : Heap} : ∀ (ns : List Int) (vs : List Value), WellAll P h vs (ns.map WData.int) -> IntsAre vs ns := by
 intro ns
 induction ns with
 | nil =>
  intro vs w
  rw [map_nil] at w
  cases w
  exact .nil
 | cons n ns ih =>
  intro vs w
  rw [map_cons] at w
  cases w with
  | cons a b =>
   cases a
   exact .cons _ _ (ih _ b)
theorem Df {l : OpenLaw} {n : Nat} (hn : l.most = some n) {P : Params} {h : Heap} {args : List WData} {vals : List Value}
  (hpre : l.row.toRowW.claim.pre args = true) (hwl : WellAll P h vals args) :
  ∃ a vs ns, vals = [Value.ref a] /\ args = [WData.list (ns.map WData.int)] /\ h.get? a = some { cls := .type "list", data := .seq vs.toArray } /\ IntsAre vs ns /\ ns.length <= n := by
 have hsh : WShape.hasAll [] args [.list .int] = true := (pre_splitW hpre).1
 have hc : l.pre.holds [] { args := args } = true := (pre_splitW hpre).2
 obtain ⟨d, r, rfl, h1, h2⟩ := hasAllW_cons hsh
 obtain rfl := hasAllW_nil h2
 obtain ⟨xs, rfl, h3⟩ := hasW_list h1
 obtain ⟨ns, rfl⟩ := items_int h3
 have hlen : ns.length <= n := by
  unfold OpenLaw.pre at hc
  have h4 : (WTm.not (.lt (.lit (.int (n : Int))) (.len (.arg 0)))).holds [] { args := [.list (ns.map .int)] } = true := by
   have h4 := (holds_andW hc).1
   rw [hn] at h4
   exact h4
  have h5 := condW_of h4 (w_not (w_lt w_lit (w_len_list (w_arg rfl))))
  rw [length_map] at h5
  refine Nat.le_of_not_lt fun q => ?_
  have q' : (n : Int) < ((ns.length : Nat) : Int) := by omega
  first
   | (rw [decide_eq_true q'] at h5; exact absurd h5 Z0)
   | (simp at h5; omega)
 cases hwl with
 | cons w1 w2 =>
  cases w2
  cases w1 with
  | list ho hall => exact ⟨_, _, ns, rfl, rfl, ho, rZ ns _ hall, hlen⟩
theorem Dj (l : OpenLaw) (args : List WData) : l.row.toRowW.claim.post args (.bool true) args = true :=
 postW_of (r := l.row.toRowW) (X := (true == true))
  (show WShape.has [] (.bool true) .bool = true by first | rfl | decide | simp [WShape.has, WShape.arms, WShape.armsAll])
  (show (WTm.eq .res (.lit (.bool true))).value [] { args := args, res := some (.bool true), after := args } = some (.bool (true == true)) from w_eq_bool (w_res rfl) w_lit) rfl
theorem attach_call {l : OpenLaw} {n : Nat} {q : Program} {loose : List Str} {XP : (Str -> Option Value) -> Heap -> Prop} {YP : World -> Heap -> Prop} {d : DefRec}
  (hn : l.most = some n) (hdf : d.params.defaults = [])
  (call : ∀ (w : World) (s₀ s₁ : Shared) (mg mb : MG) (fa : Addr) (o : Obj) (pm cd doc : Value) (a : Addr) (vs : List Value) (ns : List Int),
   Ground q loose [] XP w s₀ mg mb s₁.heap -> YP w s₁.heap ->
   s₁.heap.get? fa = some o -> o.data = .func (docDef d.name d.params d.body d.scope pm cd doc) -> s₁.heap.CodeRec cd d.name -> mg d.name = some (.ref fa) ->
   s₁.heap.get? a = some { cls := .type "list", data := .seq vs.toArray } -> IntsAre vs ns -> ns.length <= n -> s₁.gens = #[] ->
   codeAny (model l.prog w) callerA (.call (.ref fa) ⟨[.ref a], []⟩) (fun r s' => r = .ok (.ret (.bool true)) /\ OldK s₁.heap s'.heap /\ s'.os = s₁.os /\ AllBare s'.gens) s₁) :
  WalkO q loose XP YP l.row.toRowW d [] (fun f vs => PySem.call f vs) := by
 intro w s₀ s₁ mg mb G Y fa o pm cd doc dV kV ho hd hcd hD hmg hg args vals as hpre hlay hrd hwl hlo
 obtain rfl : dV = .none := Dflts.none hD hdf
 obtain rfl : kV = .none := Dflts.noKw hD
 obtain ⟨a, vs, ns, rfl, rfl, hobj, hints, hlen⟩ := Df hn hpre hwl
 refine enter_call (codeAny_mono (call w s₀ s₁ mg mb fa o pm cd doc a vs ns G Y ho (fd_plain hd) hcd hmg hobj hints hlen hg) fun r s' hq => ?_)
 obtain ⟨rfl, h2, h3, h4⟩ := hq
 exact ⟨.inl ⟨.bool true, .bool true, [], rfl, fun _ => rfl, .bool true, Dj l _, fun _ => ⟨List.Pairwise.nil, fun _ hm => (nomatch hm)⟩⟩, h2, h3, h4⟩
section
variable {prog : Program} {w : World} {A : Around} {E : EV} {s : Shared} {K : Frag}
end
end Att
namespace L2
open PySem PySem.Spec PyProof.Rows
theorem u9 : ∀ {vs : List Value} {ns : List Int}, IntsAre vs ns -> Vals (ns.map V.int) vs
 | _, _, .nil => .nil
 | _, _, .cons n t h => .cons ⟨t, rfl⟩ (u9 h)
def Only (H : Hp) : Prop := ∀ b, H b = none \/ ∃ o xs, H b = some (.frz o (.lst xs))
theorem Gv {P : Program} {w : World} {K : Frag} {mg mb : MG} {CX : CXT} {k : Nat} {fa a : Addr} {fd : FuncData} {x : Str} {sp : Sp} {s₁ : Shared} {vs : List Value} {ns : List Int}
  (KX : K.In s₁.heap) (hns : s₁.heap.Ns mainGlobals mg) (hb : s₁.heap.Ns builtinsNs mb) (hbb : ∀ x : Str, x ≠ "__name__" -> mb x = bootBuiltins x) (hlim : s₁.heap.NoLimit) (hg : s₁.gens = #[])
  (ha : s₁.heap.get? a = some { cls := .type "list", data := .seq vs.toArray }) (hi : IntsAre vs ns) (hl : ns.length <= sizeLine) (hr : aR k callerA)
  (F : ∀ base : Heap, K.In base -> base.Ns mainGlobals mg -> aG P w K mg base CX k fa fd [x] sp) (hbind : ∀ (s : Shared) (u : Value), BindsTo s fd ⟨[u], []⟩ [(x, u)])
  (hsp : ∀ H : Hp, Only H -> SqL K H a (ns.map V.int) -> sp [.ref a] H (fun v _ => v = .bl true) fun _ _ _ => False)
  (hCX : ∀ H e s', CX [] H s₁ (fun _ _ _ => False) e s' -> False) :
  codeAny (model P w) callerA (.call (.ref fa) ⟨[.ref a], []⟩) (fun r s' => r = .ok (.ret (.bool true)) /\ OldK s₁.heap s'.heap /\ s'.os = s₁.os /\ AllBare s'.gens) s₁ := by
 have rv := u9 hi
 have lenV := hi.length
 have core : ∀ H : Hp, Only H -> SqL K H a (ns.map V.int) -> HOk P w H s₁.heap -> (∀ b, H b ≠ none -> b = a) -> (H a ≠ none -> K.lookup a = none) ->
   codeAny (model P w) callerA (.call (.ref fa) ⟨[.ref a], []⟩) (fun r s' => r = .ok (.ret (.bool true)) /\ OldK s₁.heap s'.heap /\ s'.os = s₁.os /\ AllBare s'.gens) s₁ := by
  intro H hO hS hok hA hK
  have base_of : ∀ {b : Addr} {o : Obj}, s₁.heap.get? b = some o -> H b = none -> (xG s₁.heap H).get? b = some o := fun e n => Gx e n
  have noA : ∀ {b : Addr} {o : Obj} {es : Array DictEntry} {ep : Nat}, s₁.heap.get? b = some o -> o.data = .dict es ep -> H b = none := fun {b o es ep} e d => by
   cases q : H b with
   | none => rfl
   | some u =>
    have e' : b = a := hA b (by rw [q]; simp)
    subst e'
    rw [ha] at e; cases e
    have d' : Data.seq vs.toArray _ = Data.dict es ep := d
    cases d'
  have nsK : ∀ {b : Addr} {m : MG}, s₁.heap.Ns b m -> (xG s₁.heap H).Ns b m := fun {b m} ⟨o, es, ep, e, d, r⟩ => ⟨o, es, ep, base_of e (noA e d), d, r⟩
  have hKb : K.In (xG s₁.heap H) := fun b o e => base_of (KX b o e) (by
   cases q : H b with
   | none => rfl
   | some u =>
    have e' : b = a := hA b (by rw [q]; simp)
    subst e'
    rw [hK (by rw [q]; simp)] at e; cases e)
  have hM : Mod K mg (xG s₁.heap H) := ⟨hKb, nsK hns, ⟨mb, nsK hb, hbb⟩, let ⟨mc, h1, h2⟩ := hlim; ⟨mc, nsK h1, h2⟩⟩
  have e0 : zV P w K mg (xG s₁.heap H) callerA [] s₁ H := ⟨rfl, hM, fun b o e => Hl e, Nat.le_of_eq (De _ _), trivial, fun b hb => absurd (show b ∈ ([] : List Addr) from hb) Z2, hok, .of_eq hg⟩
  refine codeAny_mono ((F _ hKb (nsK hns)).run callerA [] s₁ H ⟨[.ref a], []⟩ [.ref a] [.ref a] _ _ hr e0 (hbind s₁ (.ref a)) (.cons rfl .nil) (hsp H hO hS)) fun r s' h => ?_
  cases r with
  | error e => exact (hCX H e s' h).elim
  | ok fl =>
   cases fl with
   | next => exact False.elim h
   | brk => exact False.elim h
   | cont => exact False.elim h
   | ret u =>
    obtain ⟨v, H', os, bare, un, hok', r', q⟩ := h
    have q' : v = .bl true := q
    subst q'
    obtain rfl : u = Value.bool true := r'
    refine ⟨rfl, OldK.of_keep fun b o e => ?_, os, bare⟩
    cases q : H b with
    | none => exact un.keep b o e q (by intro z; exact absurd (show b ∈ ([] : List Addr) from z) Z2) Z2
    | some u =>
     rcases hO b with z | ⟨ob, xs, z⟩
     ·rw [q] at z; cases z
     ·have z2 := un.frzs b ob _ z
      obtain ⟨e1, _⟩ := hok b _ z
      obtain ⟨e2, _⟩ := hok' b _ z2
      rw [e] at e1; cases e1
      exact e2
 cases hk : K.lookup a with
 | some o =>
  have e := KX a o hk
  rw [ha] at e
  cases e
  refine core (fun _ => none) (fun _ => .inl rfl) (.inr ⟨_, vs.toArray, _, hk, rfl, rfl, rfl, by rw [size_toArray, lenV]; exact hl, by simpa using rv⟩) (fun b u z => by have z' : (none : Option HO) = some u := z; cases z') (fun b z => absurd rfl z) fun z => absurd rfl z
 | none =>
  refine core (fun b => if b = a then some (.frz { cls := .type "list", data := .seq vs.toArray } (.lst (ns.map V.int))) else none) (fun b => ?_) (.inl (.inr ⟨{ cls := .type "list", data := .seq vs.toArray }, if_pos rfl⟩)) (fun b u z => ?_) (fun b z => ?_) fun _ => hk
  ·by_cases hb : b = a
   ·exact .inr ⟨_, _, if_pos hb⟩
   ·exact .inl (if_neg hb)
  ·by_cases hb : b = a
   ·have z' := (if_pos hb).symm.trans z
    cases z'
    subst hb
    exact ⟨ha, by rw [length_map]; exact hl, vs, _, rv, ha⟩
   ·have z' := (if_neg hb).symm.trans z
    cases z'
  ·by_cases hb : b = a
   ·exact hb
   ·exact absurd (if_neg hb) z
theorem HW {l : OpenLaw} {n k : Nat} {q : Program} {loose : List Str} {XP : (Str -> Option Value) -> Heap -> Prop} {YP : World -> Heap -> Prop} {d : DefRec} {K : Params -> Frag} {CX : World -> CXT} {sp : World -> Sp} {x : Str}
  (hn : l.most = some n) (hn2 : n <= sizeLine) (hdf : d.params.defaults = []) (hr : aR k callerA)
  (hY : ∀ (w : World) (h : Heap), YP w h -> (K w.params).In h)
  (F : ∀ (w : World) (mg : MG) (fa : Addr) (h : Heap), (K w.params).In h -> h.Ns mainGlobals mg -> mg d.name = some (.ref fa) ->
   ∃ fd : FuncData, (∀ (s : Shared) (u : Value), BindsTo s fd ⟨[u], []⟩ [(x, u)]) /\
    ∀ base : Heap, (K w.params).In base -> base.Ns mainGlobals mg -> aG l.prog w (K w.params) mg base (CX w) k fa fd [x] (sp w))
  (hsp : ∀ (w : World) (H : Hp) (a : Addr) (ns : List Int), ns.length <= n -> Only H -> SqL (K w.params) H a (ns.map V.int) -> sp w [.ref a] H (fun v _ => v = .bl true) fun _ _ _ => False)
  (hCX : ∀ (w : World) (H : Hp) (s : Shared) (e : Value) (s' : Shared), CX w [] H s (fun _ _ _ => False) e s' -> False) :
  WalkO q loose XP YP l.row.toRowW d [] (fun f vs => PySem.call f vs) := by
 refine Att.attach_call hn hdf fun w s₀ s₁ mg mb fa o pm cd doc a vs ns G Y ho hd hcd hmg hobj hints hlen hg => ?_
 have KX := hY w _ Y
 obtain ⟨fd, hb, hF⟩ := F w mg fa _ KX G.T.g hmg
 exact Gv KX G.T.g G.T.b G.T.builtins G.T.nolimit hg hobj hints (le_trans hlen hn2) hr hF hb (fun H hO hS => hsp w H a ns hlen hO hS) fun H e s' => hCX w H s₁ e s'
def d7 (s : Stmt) : Arguments := match s with
 | .FunctionDef _ a _ _ _ _ _ _ _ _ => a
 | _ => { posonlyargs := [], args := [], vararg := none, kwonlyargs := [], kw_defaults := [], kwarg := none, defaults := [] }
def cU (s : Stmt) : List Stmt := match s with
 | .FunctionDef _ _ b _ _ _ _ _ _ _ => b
 | _ => []
def aD (s : Stmt) : Scope := match s with
 | .FunctionDef _ _ _ _ _ _ sc _ _ _ => sc
 | _ => { kind := .function, names := [], isGenerator := false, isCoroutine := false }
abbrev CX0 : CXT := fun _ _ _ _ _ _ => False
abbrev E0 : XK := fun _ _ _ => False
theorem bG {X : Cx} : pQ CX0 X E0 := fun _ _ _ _ _ _ _ h => h.elim
structure Fun (K : Frag) (x qual : Str) (st : Stmt) (f : Addr) (fd : FuncData) : Prop where
 ex : ∃ (oc : Value) (od : Option Addr) (kV doc pm : Value) (an : Option Addr) (cdv ct : Value) (osl : Array (Option Value)),
  fd = fnOf x qual (d7 st) (cU st) (aD st) .none kV doc pm an cdv ct /\ K.lookup f = some ⟨oc, od, .func fd, osl⟩ /\ codeIn K cdv qual = true
 kp : keepIn K (.ref f) = true
section
variable {P : Program} {w : World} {K : Frag} {mg : MG} {base : Heap}
theorem Fun.ok {x qual : Str} {st : Stmt} {f : Addr} {fd : FuncData} {N ps : List Str} {k : Nat} {sp : Sp} (F : Fun K x qual st f fd) (S : aH N ps (aD st)) (len : ∀ vs H Q E, sp vs H Q E -> vs.length = ps.length)
  (hbody : ∀ (cdv : Value) (A : Around) (outer : List Env) (s : Shared) (H : Hp) (vs : List V) (Q : VK) (E : XK), aR k (A.deeper (envOfC qual (aD st) s.heap.objs.size f cdv)) -> sp vs H Q E ->
   ∃ t, PSs (Ar CX0 P w K mg base N qual (aD st) f cdv A outer s H E).nox (cU st) t /\ t { nx := fun _ H' => Q .non H', rt := Q } (start N vs) H) : aG P w K mg base CX0 (k + 1) f fd ps sp := by
 obtain ⟨oc, od, kV, doc, pm, an, cdv, ct, osl, rfl, lk, hcd⟩ := F.ex
 refine KN lk hcd S len fun A outer s H vs Q E hr hsp => ?_
 obtain ⟨t, h, q⟩ := hbody cdv A outer s H vs Q E hr hsp
 exact ⟨t, h.nox, q⟩
theorem Fun.binds {x qual : Str} {st : Stmt} {f : Addr} {fd : FuncData} {ps : List Str} (F : Fun K x qual st f fd)
  (h : ∀ (kV doc pm : Value) (an : Option Addr) (cdv ct : Value) (us : List Value), us.length = ps.length -> bindArgs (fnOf x qual (d7 st) (cU st) (aD st) .none kV doc pm an cdv ct) ⟨us, []⟩ = pure (ps.zip us)) : Binds K fd ps [] := by
 obtain ⟨oc, od, kV, doc, pm, an, cdv, ct, osl, rfl, lk, hcd⟩ := F.ex
 exact .all (h kV doc pm an cdv ct)
theorem FQ {x qual : Str} {st : Stmt} {f : Addr} {oc : Value} {od an : Option Addr} {osl : Array (Option Value)} {kV doc pm cdv ct : Value} (l : K.lookup f = some ⟨oc, od, .func (fnOf x qual (d7 st) (cU st) (aD st) .none kV doc pm an cdv ct), osl⟩)
  (c : codeIn K cdv qual = true) (k : keepIn K (.ref f) = true) : Fun K x qual st f (fnOf x qual (d7 st) (cU st) (aD st) .none kV doc pm an cdv ct) := ⟨⟨oc, od, kV, doc, pm, an, cdv, ct, osl, rfl, l, c⟩, k⟩
end
section
variable {X : Cx}
theorem pv (i : Nat) {x : Str} {pos : Pos} (hN : X.N[i]? = some x := by rfl) (hv : Vis X.env.scope x := by first | exact Or.inl rfl | exact Or.inr (Or.inl rfl) | exact Or.inr (Or.inr rfl)) (hd : (x == ("__debug__" : Str)) = false := by decide)
  (hcd : (x == ("__classdict__" : Str)) = false := by decide) : PE X (.Name x pos) (wU i) := JB hN hv hd hcd
end
theorem iR {A B : Prop} (h : B) : if false = true then A else B := by
 rw [if_neg Bool.false_ne_true]
 exact h
theorem JW {A B : Prop} (h : A) : if true = true then A else B := by
 rw [if_pos rfl]
 exact h
def az (H H' : Hp) : Prop := ∀ b o, H b = some o -> H' b = some o
theorem az.refl (H : Hp) : az H H := fun _ _ h => h
theorem az.trans {H H1 H2 : Hp} (a : az H H1) (b : az H1 H2) : az H H2 := fun c o h => b c o (a c o h)
theorem az.free {H H' : Hp} (e : az H H') {l : Addr} (h : H' l = Option.none) : H l = Option.none := by
 cases q : H l with
 | none => rfl
 | some o =>
  rw [e l o q] at h
  cases h
theorem az.seq {K : Frag} {H H' : Hp} {a : Addr} {xs : List V} (e : az H H') (h : SqL K H a xs) : SqL K H' a xs := by
 rcases h with (h | ⟨o, h⟩) | h
 ·exact .inl (.inl (e _ _ h))
 ·exact .inl (.inr ⟨o, e _ _ h⟩)
 ·exact .inr h
section
variable {κ : Type} [DecidableEq κ]
def jF (kvs : List (κ × V)) (k : κ) : Option V := (kvs.find? fun kv => decide (kv.1 = k)).map (·.2)
def putK (kvs : List (κ × V)) (k : κ) (v : V) : List (κ × V) :=
 if (kvs.any fun kv => decide (kv.1 = k)) = true then kvs.map (fun kv => if kv.1 = k then (kv.1, v) else kv) else kvs ++ [(k, v)]
theorem cB {p : κ × V} {r : List (κ × V)} {k : κ} (e : p.1 = k) : jF (p :: r) k = some p.2 := by simp [jF, find?_cons, e]
theorem gG {p : κ × V} {r : List (κ × V)} {k : κ} (e : ¬ p.1 = k) : jF (p :: r) k = jF r k := by simp [jF, find?_cons, e]
theorem tU (k : κ) : ∀ kvs : List (κ × V), (kvs.any fun kv => decide (kv.1 = k)) = (jF kvs k).isSome
 | [] => rfl
 | p :: r => by
  rw [any_cons]
  by_cases e : p.1 = k
  ·simp only [cB e, decide_eq_true e, Bool.true_or, Option.isSome_some]
  ·rw [gG e, decide_eq_false e, Bool.false_or]; exact tU k r
theorem vU (k j : κ) (y : V) : ∀ kvs : List (κ × V), jF kvs k = none -> jF (kvs ++ [(k, y)]) j = if j = k then some y else jF kvs j
 | [], _ => by
  by_cases e : k = j
  ·rw [if_pos e.symm]; exact cB (p := (k, y)) e
  ·rw [if_neg (fun z => e z.symm)]; exact gG (p := (k, y)) e
 | p :: r, hn => by
  rw [cons_append]
  have hk : ¬ p.1 = k := fun z => by rw [cB z] at hn; cases hn
  rw [gG hk] at hn
  have ih := vU k j y r hn
  by_cases e : p.1 = j
  ·rw [cB e, cB e, if_neg (fun z => hk (e.trans z))]
  ·rw [gG e, gG e, ih]
theorem nH (kvs : List (κ × V)) (k : κ) (v : V) : (putK kvs k v).length <= kvs.length + 1 := by
 unfold putK
 split
 ·rw [length_map]; omega
 ·rw [length_append, length_cons, List.length_nil]; omega
theorem tK {kvs : List (κ × V)} {k : κ} (v : V) (h : jF kvs k = none) : putK kvs k v = kvs ++ [(k, v)] := by
 unfold putK
 rw [tU, h]
 exact if_neg Z0
theorem oO.isSome_eq {o : Option V} {u : Option Value} (r : oO o u) : o.isSome = u.isSome := by
 cases o with
 | none => cases u with
  | none => rfl
  | some _ => exact (show False from r).elim
 | some _ => cases u with
  | none => exact (show False from r).elim
  | some _ => rfl
theorem KV.val {kvs : List (κ × V)} {vs : List (κ × Value)} (r : KV kvs vs) (k : κ) : oO (jF kvs k) (valueAt vs k) := by
 unfold KV at r
 induction r with
 | nil => exact True.intro
 | @cons p q ps qs h t ih =>
  obtain ⟨h1, h2⟩ := h
  by_cases e : p.1 = k
  ·have e' : q.1 = k := h1.symm.trans e
   have b : valueAt (q :: qs) k = some q.2 := by simp [valueAt, find?_cons, e']
   rw [cB e, b]; exact h2
  ·have e' : ¬ q.1 = k := fun z => e (h1.trans z)
   have b : valueAt (q :: qs) k = valueAt qs k := by simp [valueAt, find?_cons, e']
   rw [gG e, b]; exact ih
theorem KV.any {kvs : List (κ × V)} {vs : List (κ × Value)} (r : KV kvs vs) (k : κ) : (kvs.any fun kv => decide (kv.1 = k)) = vs.any fun kv => decide (kv.1 = k) := by
 unfold KV at r
 induction r with
 | nil => rfl
 | cons h t ih => rw [any_cons, any_cons, ih, h.1]
theorem KV.repl {kvs : List (κ × V)} {vs : List (κ × Value)} (r : KV kvs vs) (k : κ) {y : V} {u : Value} (ry : RelV y u) :
  KV (kvs.map fun kv => if kv.1 = k then (kv.1, y) else kv) (vs.map fun kv => if kv.1 = k then (kv.1, u) else kv) := by
 unfold KV at r ⊢
 induction r with
 | nil => exact .nil
 | @cons p q ps qs h t ih =>
  rw [map_cons, map_cons]
  refine .cons ?_ ih
  obtain ⟨h1, h2⟩ := h
  by_cases e : p.1 = k
  ·rw [if_pos e, if_pos (h1.symm.trans e)]; exact ⟨h1, ry⟩
  ·rw [if_neg e, if_neg (fun z => e (h1.trans z))]; exact ⟨h1, h2⟩
theorem KV.put {kvs : List (κ × V)} {vs : List (κ × Value)} (r : KV kvs vs) (k : κ) {y : V} {u : Value} (ry : RelV y u) : KV (putK kvs k y) (stored vs k u) := by
 unfold putK stored
 rw [r.any k]
 by_cases e : (vs.any fun kv => decide (kv.1 = k)) = true
 ·rw [if_pos e, if_pos e]; exact r.repl k ry
 ·rw [if_neg e, if_neg e]; exact Paired.snoc r ⟨rfl, ry⟩
theorem KV.length {kvs : List (κ × V)} {vs : List (κ × Value)} (r : KV kvs vs) : kvs.length = vs.length := Paired.length r
end
theorem vO {P : Program} {w : World} {k : Key} {u : Value} (r : RelV (kV k) u) : (bL P w).is k u = true := by
 cases k with
 | inl i => obtain ⟨t, e⟩ := (show ∃ t, u = Value.int i t from r); subst e; exact yV P w i t
 | inr x => obtain ⟨t, e⟩ := (show ∃ t, u = Value.str x t from r); subst e; exact zr P w x t
theorem vf {P : Program} {w : World} : ∀ {ks : List Key} {us : List Value}, Vals (ks.map kV) us -> ItemsAre (bL P w) ks us
 | [], _, r => by rw [map_nil] at r; cases r; exact .nil
 | k :: ks, _, r => by
  rw [map_cons] at r
  cases r with
  | cons h t => exact .cons (vO h) (vf t)
abbrev KT (H : Hp) : List (List Key × V) -> List (List Key × Addr × Value) -> Prop := Paired fun p q => p.1 = q.1 /\ H q.2.1 = some (.tup (p.1.map kV)) /\ RelV p.2 q.2.2
theorem KT.val {H : Hp} {kvs : List (List Key × V)} {xs : List (List Key × Addr × Value)} (r : KT H kvs xs) (k : List Key) : oO (jF kvs k) ((atKey xs k).map (·.2)) := by
 induction r with
 | nil => exact True.intro
 | @cons p q ps qs h t ih =>
  obtain ⟨h1, _, h2⟩ := h
  by_cases e : p.1 = k
  ·have e' : q.1 = k := h1.symm.trans e
   have b : atKey (q :: qs) k = some q.2 := by simp [atKey, find?_cons, e']
   rw [cB e, b]; exact h2
  ·have e' : ¬ q.1 = k := fun z => e (h1.trans z)
   have b : atKey (q :: qs) k = atKey qs k := by simp [atKey, find?_cons, e']
   rw [gG e, b]; exact ih
theorem KT.repl {H : Hp} {kvs : List (List Key × V)} {xs : List (List Key × Addr × Value)} (r : KT H kvs xs) (k : List Key) {y : V} {u : Value} (ry : RelV y u) :
  KT H (kvs.map fun kv => if kv.1 = k then (kv.1, y) else kv) (xs.map (putAt k u)) := by
 induction r with
 | nil => exact .nil
 | @cons p q ps qs h t ih =>
  rw [map_cons, map_cons]
  refine .cons ?_ ih
  obtain ⟨h1, h2, h3⟩ := h
  unfold putAt
  by_cases e : p.1 = k
  ·rw [if_pos e, if_pos (h1.symm.trans e)]; exact ⟨h1, h2, ry⟩
  ·rw [if_neg e, if_neg (fun z => e (h1.trans z))]; exact ⟨h1, h2, h3⟩
theorem KT.put {H : Hp} {kvs : List (List Key × V)} {xs : List (List Key × Addr × Value)} (r : KT H kvs xs) (k : List Key) {b : Addr} {y : V} {u : Value} (hb : H b = some (.tup (k.map kV))) (ry : RelV y u) :
  KT H (putK kvs k y) (storedH xs k b u) := by
 have e : (kvs.any fun kv => decide (kv.1 = k)) = (atKey xs k).isSome := by
  rw [tU, (r.val k).isSome_eq, isSome_map]
 unfold putK storedH
 rw [e]
 by_cases q : (atKey xs k).isSome = true
 ·rw [if_pos q, if_pos q]; exact r.repl k ry
 ·rw [if_neg q, if_neg q]; exact Paired.snoc r ⟨rfl, hb, ry⟩
theorem KT.keeps {H H' : Hp} {kvs : List (List Key × V)} {xs : List (List Key × Addr × Value)} (r : KT H kvs xs) (ht : ∀ b ys, H b = some (.tup ys) -> H' b = some (.tup ys)) : KT H' kvs xs :=
 Paired.mapP r fun _ _ z => ⟨z.1, ht _ _ z.2.1, z.2.2⟩
section
variable {P : Program} {w : World} {H : Hp} {h : Heap} {a : Addr}
theorem Jk {u : HO} (ok : HOk P w H h) (e : Rd H a u) : bM P w H h a u := e.ok ok
theorem u5 {kvs : List (Key × V)} (ok : HOk P w H h) (e : Rd H a (.dK kvs)) : kvs.length <= sizeLine /\ (a == sysModules) = false /\ ∃ vs, KV kvs vs /\ h.DictOf (bL P w) a vs :=
 show bM P w H h a (.dK kvs) from Jk ok e
theorem Ew {kvs : List (Key × V)} (ok : HOk P w H h) (e : H a = some (.dK kvs)) : kvs.length <= sizeLine /\ (a == sysModules) = false /\ ∃ vs, KV kvs vs /\ h.DictOf (bL P w) a vs := u5 ok (.inl e)
theorem uF {ks : List Key} (ok : HOk P w H h) (e : H a = some (.tup (ks.map kV))) : (tupleKind (bL P w)).is h ks a := by
 obtain ⟨_, its, r, o, h1, h2, n, h3⟩ := (show bM P w H h a (.tup (ks.map kV)) from ok a _ e)
 exact ⟨o, its.toArray, n, h1, h2, h3, by simpa using vf r⟩
theorem yQ {kvs : List (List Key × V)} (ok : HOk P w H h) (e : Rd H a (.dT kvs)) : kvs.length <= sizeLine /\ (a == sysModules) = false /\
  ∃ xs, KT H kvs xs /\ h.DictOfH (tupleKind (bL P w)) a xs := by
 obtain ⟨z, y, xs, r, o, es, ep, h1, h2, h3, h4, h5⟩ := (show bM P w H h a (.dT kvs) from Jk ok e)
 refine ⟨z, y, xs, r, o, es, ep, h1, h2, h3, h4, fun x hx => ?_, h5⟩
 have all : ∀ {l : List (List Key × V)} {m : List (List Key × Addr × Value)}, KT H l m -> ∀ x ∈ m, (tupleKind (bL P w)).is h x.1 x.2.1 := by
  intro l m q
  induction q with
  | nil => intro x hx; exact nomatch hx
  | @cons p q ps qs hq t ih =>
   intro x hx
   rcases mem_cons.mp hx with e | hx
   ·subst e
    exact uF ok (by rw [<- hq.1]; exact hq.2.1)
   ·exact ih x hx
 exact all r x hx
theorem Ln {kvs : List (List Key × V)} (ok : HOk P w H h) (e : H a = some (.dT kvs)) : kvs.length <= sizeLine /\ (a == sysModules) = false /\
  ∃ xs, KT H kvs xs /\ h.DictOfH (tupleKind (bL P w)) a xs := yQ ok (.inl e)
end
def gK (H : Hp) (a : Addr) (y : V) (r : Option V) : Prop :=
 (∃ kvs k, Rd H a (.dK kvs) /\ y = kV k /\ r = jF kvs k) \/ ∃ kvs k b, Rd H a (.dT kvs) /\ y = .ref b /\ H b = some (.tup (k.map kV)) /\ r = jF kvs k
def ut (H : Hp) (a : Addr) (y v : V) (H' : Hp) : Prop :=
 (∃ kvs k, H a = some (.dK kvs) /\ y = kV k /\ kvs.length < sizeLine /\ H' = upd H a (.dK (putK kvs k v))) \/
 ∃ kvs k b, H a = some (.dT kvs) /\ y = .ref b /\ H b = some (.tup (k.map kV)) /\ kvs.length < sizeLine /\ H' = upd H a (.dT (putK kvs k v))
theorem gK.k {H : Hp} {a : Addr} {kvs : List (Key × V)} {k : Key} (e : H a = some (.dK kvs)) : gK H a (kV k) (jF kvs k) := .inl ⟨kvs, k, .inl e, rfl, rfl⟩
theorem ut.k {H : Hp} {a : Addr} {kvs : List (Key × V)} {k : Key} {v : V} (e : H a = some (.dK kvs)) (hl : kvs.length < sizeLine) : ut H a (kV k) v (upd H a (.dK (putK kvs k v))) := .inl ⟨kvs, k, e, rfl, hl, rfl⟩
section
variable {X : Cx} {pins : OP} {σ : St} {H : Hp} {s : Shared} {a : Addr} {y v : V} {u r : Value} {o : Option V} {A : Around} {E : EV}
theorem Inv.big (I : Inv X pins σ H s) : sysModules < s.heap.objs.size := by
 have h : mainGlobals < s.heap.objs.size := (I.mod.glob.keeps I.bk).lt
 exact lt_trans Z0 h
theorem Dt {Q : EV} (hu : A.units + 1 < cLine) (I : Inv X pins σ H s) (g : gK H a y (some v)) (ry : RelV y u) (h : ∀ w' s', Inv X pins σ H s' -> RelV v w' -> Q w' s') :
  wpAny (model X.prog X.w) A (getItem (.ref a) u) Q E s := by
 rcases g with ⟨kvs, k, e, ey, l⟩ | ⟨kvs, k, b, e, ey, eb, l⟩
 ·subst ey
  obtain ⟨z, hd, vs, rel, dd⟩ := u5 I.hok e
  obtain ⟨w', hw, rw'⟩ := oO.some_of (v := v) (o := valueAt vs k) (by rw [l]; exact rel.val k)
  exact wpAny_getItem_of (vO ry) dd.mapOf hw (h w' _ (I.tok _) rw')
 ·subst ey
  cases (show u = Value.ref b from ry)
  obtain ⟨z, hd, xs, rel, dd⟩ := yQ I.hok e
  obtain ⟨w', hw, rw'⟩ := oO.some_of (v := v) (o := (atKey xs k).map (·.2)) (by rw [l]; exact rel.val k)
  obtain ⟨p, hp, hp2⟩ := Option.map_eq_some_iff.mp hw
  refine wpAny_getItem_heap (tupleKind_room_in1 hu) (uF I.hok eb) dd hp ?_
  rw [hp2]
  exact h w' _ (I.tok _) rw'
theorem Qk {Q : EV} (hu : A.units + 1 < cLine) (I : Inv X pins σ H s) (g : gK H a y o) (ry : RelV y u) (h : ∀ s', Inv X pins σ H s' -> Q (.bool o.isSome) s') :
  wpAny (model X.prog X.w) A (compareOp .In u (.ref a)) Q E s := by
 rcases g with ⟨kvs, k, e, ey, l⟩ | ⟨kvs, k, b, e, ey, eb, l⟩
 ·subst ey
  obtain ⟨z, hd, vs, rel, dd⟩ := u5 I.hok e
  refine wpAny_in_of (vO ry) hd dd.mapOf ?_
  rw [<- (rel.val k).isSome_eq, <- l]
  exact h _ (I.tok _)
 ·subst ey
  cases (show u = Value.ref b from ry)
  obtain ⟨z, hd, xs, rel, dd⟩ := yQ I.hok e
  refine wpAny_in_heap (tupleKind_room_in1 hu) (uF I.hok eb) hd dd ?_
  have q := (rel.val k).isSome_eq
  rw [isSome_map] at q
  rw [<- q, <- l]
  exact h _ (I.tok _)
theorem G7 {Q : EV} (hu : A.units + 1 < cLine) (I : Inv X pins σ H s) (g : gK H a y o) (ry : RelV y u) (h : ∀ s', Inv X pins σ H s' -> Q (.bool (!o.isSome)) s') :
  wpAny (model X.prog X.w) A (compareOp .NotIn u (.ref a)) Q E s := by
 rcases g with ⟨kvs, k, e, ey, l⟩ | ⟨kvs, k, b, e, ey, eb, l⟩
 ·subst ey
  obtain ⟨z, hd, vs, rel, dd⟩ := u5 I.hok e
  refine wpAny_notIn_of (vO ry) hd dd.mapOf ?_
  rw [<- (rel.val k).isSome_eq, <- l]
  exact h _ (I.tok _)
 ·subst ey
  cases (show u = Value.ref b from ry)
  obtain ⟨z, hd, xs, rel, dd⟩ := yQ I.hok e
  refine wpAny_notIn_heap (tupleKind_room_in1 hu) (uF I.hok eb) hd dd ?_
  have q := (rel.val k).isSome_eq
  rw [isSome_map] at q
  rw [<- q, <- l]
  exact h _ (I.tok _)
theorem xQ {h' : Heap} {t' : Nat} {ob : HO} (I : Inv X pins σ H s) (mu : Mut (H a)) (hs : Heap.SameBut a s.heap h') (he : ∃ q, h'.get? a = some q) (new : bM X.prog X.w (upd H a ob) h' a ob) :
  Inv X pins σ (upd H a ob) { s with heap := h', toks := t' } :=
 I.write (x := a) (e := a) mu (.inl rfl) (fun b q hb z => (hs.2 b hb).trans z) he new
theorem zQ {P : Program} {w : World} {H' : Hp} {h' : Heap} {kvs : List (Key × V)} {vs : List (Key × Value)} (z : kvs.length <= sizeLine) (hd : (a == sysModules) = false) (rel : KV kvs vs) (dd : h'.DictOf (bL P w) a vs) :
  bM P w H' h' a (.dK kvs) := ⟨z, hd, vs, rel, dd⟩
theorem DR {H' : Hp} {Q : Unit -> Shared -> Prop} (hu : A.units + 1 < cLine) (I : Inv X pins σ H s) (g : ut H a y v H') (ry : RelV y u) (rv : RelV v r) (h : ∀ s', Inv X pins σ H' s' -> Q () s') :
  wpAny (model X.prog X.w) A (setItem (.ref a) u r) Q E s := by
 rcases g with ⟨kvs, k, e, ey, l, eH⟩ | ⟨kvs, k, b, e, ey, eb, l, eH⟩
 ·subst ey eH
  obtain ⟨z, hd, vs, rel, dd⟩ := Ew I.hok e
  have hz : vs.length <= sizeLine := by rw [<- rel.length]; exact z
  have hl : (putK kvs k v).length <= sizeLine := by have := nH kvs k v; omega
  refine wpAny_setItem_pairs (hsz := hz) (vO ry) dd fun h' dd' hs => h _ ?_
  have he : ∃ q, h'.get? a = some q := let ⟨q, _, _, hq, _⟩ := dd'; ⟨q, hq⟩
  exact xQ I (by rw [e]; exact True.intro) hs he (zQ hl hd (rel.put k rv) dd')
 ·subst ey eH
  cases (show u = Value.ref b from ry)
  obtain ⟨z, hd, xs, rel, dd⟩ := Ln I.hok e
  have hz : xs.length <= sizeLine := by rw [<- Paired.length rel]; exact z
  have hl : (putK kvs k v).length <= sizeLine := by have := nH kvs k v; omega
  refine wpAny_setItem_heap (hsz := hz) (tupleKind_room_in1 hu) (uF I.hok eb) dd fun h' dd' hs => h _ ?_
  obtain ⟨q, es, ep, hq, h2, h3, h4, _, h5⟩ := dd'
  refine xQ I (by rw [e]; exact True.intro) hs ⟨q, hq⟩ ⟨hl, hd, _, (rel.put k eb rv).keeps fun c ys ec => ?_, q, es, ep, hq, h2, h3, h4, h5⟩
  rw [aA (aF ec e (fun z => nomatch z))]
  exact ec
end
section
variable {X : Cx} {pins : OP} {σ : St} {H : Hp} {s : Shared} {a : Addr} {kvs : List (Key × V)} {k : Key} {u : Value} {A : Around} {E : EV}
end
def K1 (i : Expr) : Prop := ∀ ov iv, subscripted i false ov iv = operate [ov, iv] (getItem ov iv)
theorem HR {prog : Program} {w : World} {A : Around} {E : EV} {s : Shared} {env : Env} {value slice : Expr} {pos : Pos} {T id : String} {Q : EV}
  (hl : typeLookup (.type T) "__getitem__" = pure (some (.builtin id))) (hs : K1 slice)
  (h : wpAny (model prog w) A (eval value env) (fun o s₁ => wpAny (model prog w) A (eval slice env) (fun i s₂ => s₂.TypeIs o T /\ wpAny (model prog w) A (getItem o i) Q E s₂) E s₁) E s) :
  wpAny (model prog w) A (eval (.Subscript value slice pos) env) Q E s := by
 refine Subscript_ (wpAny_mono h (fun o s₁ h₁ => wpAny_mono h₁ (fun i s₂ h₂ => ?_) fun _ _ x => x) fun _ _ x => x)
 obtain ⟨hT, h₂⟩ := h₂
 unfold subscriptTail
 refine wpAny_bind ?_
 rw [getitemInPython_of_ne hT.not_modules]
 refine wpAny_bind (wpAny_specialOf hT hl ?_)
 have fin : wpAny (model prog w) A (subscripted slice false o i) (fun r s₃ => wpAny (model prog w) A (letTemporaryGo value o r >>= fun _ => pure r) Q E s₃) E s₂ := by
  rw [hs o i]
  exact wpAny_operating (wpAny_mono h₂ (fun r s₃ h₃ => wpAny_bind (wpAny_letTemporaryGo (wpAny_pure h₃))) fun _ _ x => x)
 first
  | exact wpAny_pure (wpAny_bind fin)
  | exact wpAny_bind (wpAny_pure (wpAny_bind fin))
  | exact wpAny_bind fin
theorem zj {X : Cx} {pins : OP} {σ : St} {H : Hp} {s : Shared} {a : Addr} {y : V} {o : Option V} (I : Inv X pins σ H s) (g : gK H a y o) : s.TypeIs (.ref a) "dict" := by
 rcases g with ⟨kvs, k, e, _, _⟩ | ⟨kvs, k, b, e, _, _, _⟩
 ·obtain ⟨_, _, vs, _, dd⟩ := u5 I.hok e
  exact dd.typeIs
 ·obtain ⟨_, _, xs, _, dd⟩ := yQ I.hok e
  exact dd.typeIs
def Mh (td ty : TE) : TE := fun σ H Q => td σ H fun x H1 => ty σ H1 fun y H2 => ∃ a v, x = .ref a /\ gK H2 a y (some v) /\ Q v H2
def Ny (ty td : TE) : TE := fun σ H Q => ty σ H fun y H1 => td σ H1 fun x H2 => ∃ a o, x = .ref a /\ gK H2 a y o /\ Q (.bl o.isSome) H2
def Ho (ty td : TE) : TE := fun σ H Q => ty σ H fun y H1 => td σ H1 fun x H2 => ∃ a o, x = .ref a /\ gK H2 a y o /\ Q (.bl (!o.isSome)) H2
def K5 (td ty tv : TE) : TS := fun D σ H => tv σ H fun v H1 => td σ H1 fun x H2 => ty σ H2 fun y H3 => ∃ a H4, x = .ref a /\ ut H3 a y v H4 /\ D.nx σ H4
section
variable {X : Cx} {o i e value : Expr} {pos pos' tpos : Pos} {td ty tv : TE}
theorem dw (hu : X.A.units + 1 < cLine) (ho : PE X o td) (hi : PE X i ty) (hs : K1 i) : PE X (.Subscript o i pos) (Mh td ty) := by
 intro pins s σ H Q I h
 refine HR PySem.F.slot_dict_getitem.lookup hs (thn (ho pins s σ H _ I h) fun u s1 ⟨x, H1, I1, rx, q1⟩ => thn (hi pins s1 σ H1 _ I1 q1) fun iv s2 ⟨y, H2, I2, ry, a, v, ex, g, q2⟩ => ?_)
 subst ex
 obtain rfl : u = Value.ref a := rx
 exact ⟨zj I2 g, Dt hu I2 g ry fun w' s3 I3 rw' => ⟨v, H2, I3, rw', q2⟩⟩
theorem Ka (hu : X.A.units + 1 < cLine) (hi : PE X i ty) (ho : PE X o td) : PC X .In i o (Ny ty td) := by
 intro pins s σ H Q I h
 refine thn (hi pins s σ H _ I h) fun iv s1 ⟨y, H1, I1, ry, q1⟩ => thn (ho pins s1 σ H1 _ I1 q1) fun u s2 ⟨x, H2, I2, rx, a, ov, ex, g, q2⟩ => ?_
 subst ex
 obtain rfl : u = Value.ref a := rx
 exact Qk hu I2 g ry fun s3 I3 => ⟨.bl ov.isSome, H2, I3, rfl, q2⟩
theorem Dp (hu : X.A.units + 1 < cLine) (hi : PE X i ty) (ho : PE X o td) : PC X .NotIn i o (Ho ty td) := by
 intro pins s σ H Q I h
 refine thn (hi pins s σ H _ I h) fun iv s1 ⟨y, H1, I1, ry, q1⟩ => thn (ho pins s1 σ H1 _ I1 q1) fun u s2 ⟨x, H2, I2, rx, a, ov, ex, g, q2⟩ => ?_
 subst ex
 obtain rfl : u = Value.ref a := rx
 exact G7 hu I2 g ry fun s3 I3 => ⟨.bl (!ov.isSome), H2, I3, rfl, q2⟩
theorem lK (hu : X.A.units + 1 < cLine) (ho : PE X o td) (hi : PE X i ty) (hv : PE X value tv) (hs : swapsWith value (some (.Subscript o i pos')) pos.line X.env = pure false) :
  PS X (.Assign [.Subscript o i pos'] value pos) (K5 td ty tv) := by
 intro pins s σ H D I h
 refine wpAny_Assign_Subscript (thn (hv pins s σ H _ I h) fun r s1 ⟨v, H1, I1, rv, q1⟩ => thn (ho pins s1 σ H1 _ I1 q1) fun u s2 ⟨x, H2, I2, rx, q2⟩ => thn (hi pins s2 σ H2 _ I2 q2) fun iv s3 ⟨y, H3, I3, ry, a, H4, ex, g, q3⟩ => ?_) hs
 subst ex
 obtain rfl : u = Value.ref a := rx
 exact DR hu I3 g ry rv fun s4 I4 => ⟨σ, H4, I4, q3⟩
end
theorem zx {P : Program} {w : World} {H : Hp} (h : Heap) (hb : sysModules < h.objs.size) : bM P w H (h.push { cls := .type "dict", data := .dict #[] }) h.objs.size (.dK []) :=
 ⟨zero_le _, beq_eq_false_iff_ne.mpr (Ne.symm (ne_of_lt hb)), [], .nil, Heap.DictOf.new h⟩
def J7 : TE := fun _ H Q => ∀ p, H p = none -> Q (.ref p) (upd H p (.dK []))
section
variable {X : Cx} {pos : Pos}
theorem nT : PE X (.Dict [] [] pos) J7 := fun pins s σ H Q I h =>
 wpAny_Dict_empty ⟨.ref s.heap.objs.size, _, I.laid (a := s.heap.objs.size) (o := .dK []) (t' := s.toks) (fun _ _ q => Heap.get?_push_of_some _ q) (le_refl _) (zx s.heap I.big), rfl, h _ (I.hok.fresh (le_refl _))⟩
end
def Bc : List (TE × TE) -> St -> Hp -> (List (V × V) -> Hp -> Prop) -> Prop
 | [], _, H, Q => Q [] H
 | (tk, tv) :: r, σ, H, Q => tk σ H fun x H1 => tv σ H1 fun y H2 => Bc r σ H2 fun ps H3 => Q ((x, y) :: ps) H3
abbrev VV : List (V × V) -> List (Value × Value) -> Prop := Paired fun p q => RelV p.1 q.1 /\ RelV p.2 q.2
def PPs (X : Cx) (pos : Pos) (keys : List (Option Expr)) (values : List Expr) (trs : List (TE × TE)) : Prop :=
 ∀ (pins : OP) (s : Shared) (σ : St) (H : Hp) (Q : List (V × V) -> Hp -> Prop), Inv X pins σ H s -> Bc trs σ H Q ->
  wpAny (model X.prog X.w) X.A (evalPairs (pairTrees keys values X.env pos)) (fun vs s' => ∃ ps H', Inv X pins σ H' s' /\ VV ps vs /\ Q ps H') X.xe s
theorem HY {X : Cx} {pos : Pos} : PPs X pos [] [] [] := fun pins s σ H Q I h => pairTrees_nil_walk ⟨[], H, I, .nil, h⟩
theorem FZ {X : Cx} {pos : Pos} {k v : Expr} {ks : List (Option Expr)} {vs : List Expr} {tk tv : TE} {trs : List (TE × TE)} (hk : PE X k tk) (hv : PE X v tv) (hr : PPs X pos ks vs trs) :
  PPs X pos (some k :: ks) (v :: vs) ((tk, tv) :: trs) := fun pins s σ H Q I h =>
 pairTrees_cons_walk (thn (hk pins s σ H _ I h) fun u s1 ⟨x, H1, I1, rx, q1⟩ => thn (hv pins s1 σ H1 _ I1 q1) fun w2 s2 ⟨y, H2, I2, ry, q2⟩ =>
  thn (hr pins s2 σ H2 _ I2 q2) fun ws s3 ⟨ps, H3, I3, rel, q3⟩ => ⟨(x, y) :: ps, H3, I3, .cons ⟨rx, ry⟩ rel, q3⟩)
def uI (kvs more : List (Key × V)) : List (Key × V) := more.foldl (fun acc kv => putK acc kv.1 kv.2) kvs
theorem KV.merge : ∀ {more : List (Key × V)} {rs : List (Key × Value)} {kvs : List (Key × V)} {vs : List (Key × Value)}, KV more rs -> KV kvs vs -> KV (uI kvs more) (merged vs rs) := by
 intro more rs kvs vs r
 unfold KV at r
 induction r generalizing kvs vs with
 | nil => intro q; exact q
 | @cons p q ps qs h t ih =>
  intro r0
  have e : KV (putK kvs p.1 p.2) (stored vs q.1 q.2) := by
   have := r0.put p.1 h.2
   rw [<- h.1]; exact this
  exact ih e
theorem o6 : ∀ (more kvs : List (Key × V)), (uI kvs more).length <= kvs.length + more.length
 | [], kvs => by show kvs.length <= kvs.length + 0; omega
 | p :: r, kvs => by
  have h1 := o6 r (putK kvs p.1 p.2)
  have h2 := nH kvs p.1 p.2
  show (uI (putK kvs p.1 p.2) r).length <= _
  rw [length_cons]; omega
theorem t8 {P : Program} {w : World} : ∀ {kvs : List (Key × V)} {ws : List (Value × Value)}, VV (kvs.map fun kv => (kV kv.1, kv.2)) ws -> ∃ rs, Carries (bL P w) ws rs /\ KV kvs rs
 | [], _, r => by rw [map_nil] at r; cases r; exact ⟨[], True.intro, .nil⟩
 | p :: kvs, _, r => by
  rw [map_cons] at r
  cases r with
  | @cons a b as bs h t =>
   obtain ⟨rs, c, q⟩ := t8 (P := P) (w := w) t
   obtain ⟨b1, b2⟩ := b
   exact ⟨(p.1, b2) :: rs, ⟨vO h.1, rfl, c⟩, .cons ⟨rfl, h.2⟩ q⟩
def LC (trs : List (TE × TE)) : TE := fun σ H Q => ∀ p, H p = none -> Bc trs σ (upd H p (.dK [])) fun ps H2 => H2 p = some (.dK []) /\ ∃ kvs : List (Key × V), ps = kvs.map (fun kv => (kV kv.1, kv.2)) /\ kvs.length <= 15 /\ Q (.ref p) (upd H2 p (.dK (uI [] kvs)))
theorem Iw {X : Cx} {pos : Pos} {keys : List (Option Expr)} {values : List Expr} {trs : List (TE × TE)} (h : PPs X pos keys values trs) (hall : keys.all (·.isSome) = true) (hl : keys.length = values.length) (h0 : keys ≠ [])
  (h15 : keys.length <= 15) : PE X (.Dict keys values pos) (LC trs) := by
 intro pins s σ H Q I q
 have hn := I.hok.fresh (le_refl s.heap.objs.size)
 have I1 := I.laid (a := s.heap.objs.size) (o := .dK []) (h' := s.heap.push { cls := .type "dict", data := .dict #[] }) (t' := s.toks) (fun _ _ q => Heap.get?_push_of_some _ q) (le_refl _) (zx s.heap I.big)
 refine wpAny_Dict_walk (knd := bL X.prog X.w) hall hl h0 h15 (thn (h pins _ σ _ _ I1 (q _ hn)) fun ws s2 ⟨ps, H2, I2, rel, e, kvs, ep, lk, q2⟩ => ?_)
 subst ep
 obtain ⟨rs, c, rk⟩ := t8 (P := X.prog) (w := X.w) rel
 obtain ⟨z, hd, vs0, r0, dd⟩ := Ew I2.hok e
 cases r0
 refine ⟨rs, c, dd, fun h' dd' hs => ⟨.ref s.heap.objs.size, _, ?_, rfl, q2⟩⟩
 have hz : (uI [] kvs).length <= sizeLine := by
  have h1 := o6 kvs []
  rw [List.length_nil] at h1
  rw [sizeLine_eq]; omega
 have he : ∃ q, h'.get? s.heap.objs.size = some q := let ⟨q, _, _, hq, _⟩ := dd'; ⟨q, hq⟩
 exact xQ I2 (by rw [e]; exact True.intro) hs he (zQ hz hd (rk.merge .nil) dd')
section
variable {X : Cx} {pins : OP} {σ : St} {H : Hp} {s : Shared} {a : Addr} {y d : V} {u r : Value} {o : Option V} {A : Around} {E : EV}
end
section
variable {X : Cx} {o e f : Expr} {apos cpos : Pos} {td ty tx : TE}
end
section
variable {X : Cx} {pins : OP} {σ : St} {H : Hp} {s : Shared} {a : Addr} {kvs : List (Key × V)} {A : Around} {E : EV}
theorem GK {Q : EV} (I : Inv X pins σ H s) (e : Rd H a (.dK kvs)) (h : ∀ p s', H p = none -> Inv X pins σ (upd H p (.dK kvs)) s' -> Q (.ref p) s') : wpAny (model X.prog X.w) A (call (.type "dict") [.ref a]) Q E s := by
 obtain ⟨z, hd, vs, rel, dd⟩ := u5 I.hok e
 refine kt_call_dict hd dd (by rw [<- rel.length]; exact z) fun h' dd' hs => ?_
 refine h _ _ (I.hok.fresh (le_refl _)) (I.laid (a := s.heap.objs.size) (o := .dK kvs) (t' := s.toks) (fun b q hq => ?_) (le_refl _) (zQ z (beq_eq_false_iff_ne.mpr (Ne.symm (ne_of_lt I.big))) rel dd'))
 exact (hs.2 b (ne_of_lt (Heap.lt_size hq))).trans (Heap.get?_push_of_some _ hq)
end
section
variable {X : Cx} {pins : OP} {σ : St} {H : Hp} {s : Shared} {a : Addr} {y : V} {u : Value} {A : Around} {E : EV}
end
end L2
set_option maxHeartbeats 4000000
namespace Mine
open PySem PySem.Builtin PySem.Builtin.Str
theorem qY {a b : Str} (h : a.cps.toList = b.cps.toList) : a = b := by
 cases a; cases b
 exact congrArg Str.mk (Array.toList_inj.mp h)
theorem f9 (a : Str) : a.length = a.cps.toList.length := by simp [Str.length]
theorem ir (a b : Str) : (a ++ b).cps.toList = a.cps.toList ++ b.cps.toList := by
 show (a.cps ++ b.cps).toList = _
 simp
def inter (c : Nat) : List (List Nat) -> List Nat
 | [] => []
 | [x] => x
 | x :: y :: r => x ++ c :: inter c (y :: r)
theorem pX (c : Nat) : ∀ ys : List Str, (Str.join ⟨#[c]⟩ ys).cps.toList = inter c (ys.map (·.cps.toList))
 | [] => by simp [Str.join, inter, Str.empty]
 | [x] => rfl
 | x :: y :: r => by
  have ih := pX c (y :: r)
  show ((x ++ (⟨#[c]⟩ : Str)) ++ Str.join ⟨#[c]⟩ (y :: r)).cps.toList = _
  rw [ir, ir, ih]
  simp [inter]
theorem n6 : ∀ ys : List Str, (Str.join ⟨#[]⟩ ys).cps.toList = (ys.map (·.cps.toList)).flatten
 | [] => by simp [Str.join, Str.empty]
 | [x] => by simp [Str.join]
 | x :: y :: r => by
  have ih := n6 (y :: r)
  show ((x ++ (⟨#[]⟩ : Str)) ++ Str.join ⟨#[]⟩ (y :: r)).cps.toList = _
  rw [ir, ir, ih]
  simp
theorem zA {c : Nat} : ∀ {x y R S : List Nat}, c ∉ x -> c ∉ y -> (R = [] \/ ∃ r, R = c :: r) -> (S = [] \/ ∃ r, S = c :: r) -> x ++ R = y ++ S -> x = y /\ R = S
 | [], [], R, S, _, _, _, _, h => ⟨rfl, h⟩
 | [], b :: y, R, S, _, hy, hR, _, h => by
  rcases hR with rfl | ⟨r, rfl⟩
  ·cases h
  ·have e : c = b := (List.cons.inj h).1
   exact absurd (by rw [<- e]; exact mem_cons_self) hy
 | a :: x, [], R, S, hx, _, _, hS, h => by
  rcases hS with rfl | ⟨r, rfl⟩
  ·cases h
  ·have e : a = c := (List.cons.inj h).1
   exact absurd (by rw [e]; exact mem_cons_self) hx
 | a :: x, b :: y, R, S, hx, hy, hR, hS, h => by
  obtain ⟨e, h'⟩ := List.cons.inj h
  obtain ⟨e2, e3⟩ := zA (x := x) (y := y) (fun z => hx (mem_cons_of_mem _ z)) (fun z => hy (mem_cons_of_mem _ z)) hR hS h'
  exact ⟨by rw [e, e2], e3⟩
theorem ud (c : Nat) (x : List Nat) (r : List (List Nat)) : ∃ R, inter c (x :: r) = x ++ R /\ (R = [] \/ ∃ q, R = c :: q) /\ (R = [] ↔ r = []) /\ (∀ q, R = c :: q -> q = inter c r) := by
 cases r with
 | nil => exact ⟨[], by simp [inter], .inl rfl, Z2, fun q h => nomatch h⟩
 | cons y r => exact ⟨c :: inter c (y :: r), rfl, .inr ⟨_, rfl⟩, Z2, fun q h => (List.cons.inj h).2.symm⟩
theorem vm {c : Nat} : ∀ {xs ys : List (List Nat)}, (∀ x ∈ xs, c ∉ x) -> (∀ y ∈ ys, c ∉ y) -> xs ≠ [] -> ys ≠ [] -> inter c xs = inter c ys -> xs = ys
 | [], _, _, _, h, _, _ => absurd rfl h
 | _, [], _, _, _, h, _ => absurd rfl h
 | x :: xs, y :: ys, hx, hy, _, _, h => by
  obtain ⟨R, e1, f1, g1, q1⟩ := ud c x xs
  obtain ⟨S, e2, f2, g2, q2⟩ := ud c y ys
  rw [e1, e2] at h
  obtain ⟨a, b⟩ := zA (hx x mem_cons_self) (hy y mem_cons_self) f1 f2 h
  subst a; subst b
  cases xs with
  | nil =>
   have : ys = [] := g2.mp (g1.mpr rfl)
   rw [this]
  | cons x' xs' =>
   have hR : R ≠ [] := fun z => by cases g1.mp z
   have hys : ys ≠ [] := fun z => hR (g2.mpr z)
   rcases f1 with z | ⟨q, z⟩
   ·exact absurd z hR
   ·have i1 := q1 q z
    have i2 := q2 q z
    rw [vm (fun u hu => hx u (mem_cons_of_mem _ hu)) (fun u hu => hy u (mem_cons_of_mem _ hu)) Z2 hys (i1.symm.trans i2)]
theorem oW : ∀ {xs ys : List Str}, xs.map (·.cps.toList) = ys.map (·.cps.toList) -> xs = ys
 | [], [], _ => rfl
 | [], _ :: _, h => by cases h
 | _ :: _, [], h => by cases h
 | x :: xs, y :: ys, h => by
  obtain ⟨a, b⟩ := List.cons.inj h
  rw [qY a, oW b]
theorem Fx (x y : Str) : Txt.split x y ≠ [] := by
 unfold Txt.split
 split
 ·simp
 ·split
  ·simp
  ·intro h
   have := congrArg List.length h
   rw [length_partsBetween] at this
   simp at this
theorem zE (c : Nat) (ys : List Str) (h0 : ys ≠ []) (hf : ∀ y ∈ ys, c ∉ y.cps.toList) : Txt.split (Str.join ⟨#[c]⟩ ys) ⟨#[c]⟩ = ys := by
 refine oW (vm (c := c) ?_ ?_ ?_ ?_ ?_)
 ·intro x hx
  obtain ⟨z, hz, rfl⟩ := mem_map.mp hx
  exact StrLaws.split_free _ c z hz
 ·intro x hx
  obtain ⟨z, hz, rfl⟩ := mem_map.mp hx
  exact hf z hz
 ·intro h; exact Fx _ _ (List.map_eq_nil_iff.mp h)
 ·intro h; exact h0 (List.map_eq_nil_iff.mp h)
 ·rw [<- pX, <- pX, StrLaws.join_split]
theorem xj (x : Str) (c i : Nat) : StrLaws.At x ⟨#[c]⟩ x.length i ↔ x.cps.toList[i]? = some c := by
 unfold StrLaws.At subAt
 have e1 : ((⟨#[c]⟩ : Str)).length = 1 := rfl
 rw [e1]
 constructor
 ·rintro ⟨h1, h2⟩
  have h3 : x.cps.extract i (i + 1) = #[c] := by simpa using h2
  have h4 := congrArg Array.toList h3
  rw [toList_extract, List.extract_eq_take_drop] at h4
  have h5 : x.cps.toList[i]? = ((x.cps.toList.drop i).take (i + 1 - i))[0]? := by
   rw [List.getElem?_take, if_pos Z1, List.getElem?_drop]; simp
  rw [h5, h4]; rfl
 ·intro h
  have hlt : i < x.cps.toList.length := (List.getElem?_eq_some_iff.mp h).1
  refine ⟨by rw [f9]; omega, ?_⟩
  have : x.cps.extract i (i + 1) = #[c] := by
   apply Array.toList_inj.mp
   rw [toList_extract, List.extract_eq_take_drop]
   have e : i + 1 - i = 1 := by omega
   rw [e, List.drop_eq_getElem_cons hlt]
   have : x.cps.toList[i] = c := (List.getElem?_eq_some_iff.mp h).2
   rw [this]; rfl
  rw [this]; simp
theorem CV {x : Str} {c : Nat} (h : c ∉ x.cps.toList) : lastOccurrence x ⟨#[c]⟩ 0 x.length = none := by
 rcases StrLaws.last_spec x ⟨#[c]⟩ with ⟨e, _⟩ | ⟨i, _, hi, _⟩
 ·exact e
 ·exact absurd (mem_of_getElem? ((xj x c i).mp hi)) h
theorem Dl {a b : Str} {c : Nat} (h : c ∉ b.cps.toList) : lastOccurrence (a ++ (⟨#[c]⟩ : Str) ++ b) ⟨#[c]⟩ 0 (a ++ (⟨#[c]⟩ : Str) ++ b).length = some a.length := by
 have hc : (a ++ (⟨#[c]⟩ : Str) ++ b).cps.toList = a.cps.toList ++ c :: b.cps.toList := by rw [ir, ir]; simp
 have here : (a ++ (⟨#[c]⟩ : Str) ++ b).cps.toList[a.length]? = some c := by
  rw [hc, f9, getElem?_append_right (le_refl _)]; simp
 rcases StrLaws.last_spec (a ++ (⟨#[c]⟩ : Str) ++ b) ⟨#[c]⟩ with ⟨_, hn⟩ | ⟨i, e, hi, hn⟩
 ·exact absurd ((xj _ c _).mpr here) (hn _)
 ·rw [e]
  have hi' := (xj _ c i).mp hi
  have h1 : ¬ i < a.length := fun z => hn a.length z ((xj _ c _).mpr here)
  have h2 : ¬ a.length < i := fun z => by
   rw [hc, f9] at *
   rw [getElem?_append_right Z1] at hi'
   obtain ⟨k, hk⟩ : ∃ k, i - a.cps.toList.length = k + 1 := ⟨i - a.cps.toList.length - 1, Z1⟩
   rw [hk] at hi'
   exact h (mem_of_getElem? (by simpa using hi'))
  congr 1
  omega
theorem Ft (a b : Str) : strSub (a ++ b) 0 a.length = a := by
 apply qY
 unfold strSub
 show ((a ++ b).cps.extract 0 a.length).toList = _
 rw [toList_extract, List.extract_eq_take_drop, ir, f9]
 simp
theorem Ge (a b : Str) : strSub (a ++ b) a.length (a ++ b).length = b := by
 apply qY
 unfold strSub
 show ((a ++ b).cps.extract a.length (a ++ b).length).toList = _
 rw [toList_extract, List.extract_eq_take_drop, ir, f9, f9, ir]
 simp
 exact List.take_of_length_le Z2
theorem join_snoc (s : Str) (b : Str) : ∀ xs : List Str, xs ≠ [] -> Str.join s (xs ++ [b]) = Str.join s xs ++ s ++ b
 | [], h => absurd rfl h
 | [x], _ => rfl
 | x :: y :: r, _ => by
  have ih := join_snoc s b (y :: r) Z2
  show x ++ s ++ Str.join s (y :: r ++ [b]) = (x ++ s ++ Str.join s (y :: r)) ++ s ++ b
  rw [ih]
  apply qY
  simp only [ir, append_assoc]
def ql : List Int := [48271, 1000003, 15485863, 32452843, 49979687, 67867967, 86028121, 104395301]
def qz : List Int := [179424673, 373587883, 573259391, 776531401, 982451653]
def Jj (c k many : Int) : Int := Builtin.bitAnd (c / 2 ^ (1 + 10 * k).toNat) 1023 % many
def yf (c k : Int) : Int := (c / 2 % 2305843009213693951 + 1) * (ql.getD (k % 8).toNat 0 * qz.getD (k / 8).toNat 0) % 2305843009213693951
def yI (c k : Int) : Int := yf c k * yf c k % 1000000000039
def Et (c k many : Int) : Int := (yI c k + k + 1) * (yI c k / 10007 + 48271) % 67280421310721 / 31 % many
def pick (c k many : Int) : Int := if c % 2 = 1 /\ 0 < c / 2 ^ (400 : Int).toNat then Jj c k many else Et c k many
theorem jm (c k : Int) {m : Int} (h : 0 < m) : 0 <= pick c k m := by
 unfold pick; split
 ·exact emod_nonneg _ Z1
 ·exact emod_nonneg _ Z1
theorem jn (c k : Int) {m : Int} (h : 0 < m) : pick c k m < m := by
 unfold pick; split
 ·exact emod_lt_of_pos _ h
 ·exact emod_lt_of_pos _ h
theorem Hh (c k : Int) : 0 <= yf c k := emod_nonneg _ Z0
theorem Il (c k : Int) : yf c k < 2305843009213693951 := emod_lt_of_pos _ Z0
theorem Hn (c k : Int) : 0 <= yI c k := emod_nonneg _ Z0
theorem Ig (c k : Int) : yI c k < 1000000000039 := emod_lt_of_pos _ Z0
theorem Hk {k : Int} (h0 : 0 <= k) (h1 : k < 8) : ql[k.toNat]? = some (ql.getD k.toNat 0) /\ 0 < ql.getD k.toNat 0 /\ ql.getD k.toNat 0 < 1000000000 := by
 have : ∀ n : Fin 8, ql[n.val]? = some (ql.getD n.val 0) /\ 0 < ql.getD n.val 0 /\ ql.getD n.val 0 < 1000000000 := by decide
 exact this ⟨k.toNat, Z1⟩
theorem HQ {k : Int} (h0 : 0 <= k) (h1 : k < 5) : qz[k.toNat]? = some (qz.getD k.toNat 0) /\ 0 < qz.getD k.toNat 0 /\ qz.getD k.toNat 0 < 1000000000 := by
 have : ∀ n : Fin 5, qz[n.val]? = some (qz.getD n.val 0) /\ 0 < qz.getD n.val 0 /\ qz.getD n.val 0 < 1000000000 := by decide
 exact this ⟨k.toNat, Z1⟩
theorem Dk {a b : Int} (ha : 0 < a) (ha' : a < 1000000000) (hb : 0 < b) (hb' : b < 1000000000) : 0 < a * b /\ a * b < 1000000000000000000 := by
 have h1 := Int.mul_pos ha hb
 have h2 : a * b <= 1000000000 * b := Int.mul_le_mul_of_nonneg_right Z1 Z1
 exact ⟨h1, Z1⟩
def KH (c j : Int) : Int := Builtin.bitOr (c / 2 ^ (480 * j).toNat) 1
def subB (c j : Int) : Int := (c / 2 / (j + 1) + 104729 * j) * 2
def sub (c j : Int) : Int := if c % 2 = 1 /\ 0 < c / 2 ^ (480 * j + 400).toNat then KH c j else subB c j
def number (c far : Int) : Int := if c % 2 = 1 /\ 0 < c / 2 ^ (400 : Int).toNat then c / 2 ^ (400 : Int).toNat % far else c / 2 % far
structure eZ (x : Str) : Prop where
 lo : 1 <= x.length
 hi : x.length <= 8
 ok : ∀ n ∈ x.cps.toList, 97 <= n /\ n <= 122
theorem eZ.nodot {x : Str} (h : eZ x) : 46 ∉ x.cps.toList := fun z => by have := h.ok 46 z; omega
def letters : Str := "abcdefghijklmnopqrstuvwxyz"
theorem Bd {k : Int} (h0 : 0 <= k) (h1 : k < 26) : letters.cps.toList[k.toNat]? = some (97 + k.toNat) := by
 have : ∀ n : Fin 26, letters.cps.toList[n.val]? = some (97 + n.val) := by decide +kernel
 exact this ⟨k.toNat, Z1⟩
theorem wB : (("." : Str)) = ⟨#[46]⟩ := by decide +kernel
theorem GZ : (("" : Str)) = ⟨#[]⟩ := by decide +kernel
def dotted (ys : List Str) : Str := Txt.join ("." : Str) ys
theorem iW (ys : List Str) : dotted ys = Str.join ⟨#[46]⟩ ys := by
 unfold dotted
 rw [wB]
 exact StrLaws.glued_eq_join _ ys
theorem xM (ys : List Str) (h0 : ys ≠ []) (hn : ∀ y ∈ ys, eZ y) : Txt.split (dotted ys) ("." : Str) = ys := by
 rw [iW, wB]
 exact zE 46 ys h0 fun y hy => (hn y hy).nodot
theorem Du (y : Str) (h : eZ y) : Txt.rpartition y ("." : Str) = (Str.empty, Str.empty, y) := by
 unfold Txt.rpartition
 rw [wB, CV h.nodot]
theorem Aj (xs : List Str) (b : Str) (h0 : xs ≠ []) (h : eZ b) : Txt.rpartition (dotted (xs ++ [b])) ("." : Str) = (dotted xs, (".": Str), b) := by
 unfold Txt.rpartition
 rw [iW, iW, wB, join_snoc _ _ _ h0, Dl h.nodot]
 show (strSub (Str.join ⟨#[46]⟩ xs ++ (⟨#[46]⟩ : Str) ++ b) 0 (Str.join ⟨#[46]⟩ xs).length, _, strSub _ _ _) = _
 have e1 : strSub (Str.join ⟨#[46]⟩ xs ++ (⟨#[46]⟩ : Str) ++ b) 0 (Str.join ⟨#[46]⟩ xs).length = Str.join ⟨#[46]⟩ xs := by
  have : Str.join ⟨#[46]⟩ xs ++ (⟨#[46]⟩ : Str) ++ b = Str.join ⟨#[46]⟩ xs ++ ((⟨#[46]⟩ : Str) ++ b) := qY (by simp only [ir, append_assoc])
  rw [this]; exact Ft _ _
 have e2 : strSub (Str.join ⟨#[46]⟩ xs ++ (⟨#[46]⟩ : Str) ++ b) ((Str.join ⟨#[46]⟩ xs).length + (⟨#[46]⟩ : Str).length) (Str.join ⟨#[46]⟩ xs ++ (⟨#[46]⟩ : Str) ++ b).length = b := by
  have l1 : (Str.join ⟨#[46]⟩ xs).length + (⟨#[46]⟩ : Str).length = (Str.join ⟨#[46]⟩ xs ++ (⟨#[46]⟩ : Str)).length := by rw [f9, f9, f9, ir, length_append]
  rw [l1]; exact Ge _ _
 rw [e1, e2]
theorem tO {ys : List Str} {n : Nat} (h : ∀ y ∈ ys, y.length <= n) : (ys.map (·.length)).sum <= ys.length * n := by
 induction ys with
 | nil => simp
 | cons y r ih =>
  have h1 := h y mem_cons_self
  have h2 := ih fun z hz => h z (mem_cons_of_mem _ hz)
  simp only [map_cons, List.sum_cons, length_cons, Nat.add_mul, Nat.one_mul]
  omega
theorem zL (ys : List Str) : (dotted ys).length <= (ys.map (·.length)).sum + ys.length := by
 rw [iW]
 have := StrLaws.join_length_le ⟨#[46]⟩ ys
 have e : (⟨#[46]⟩ : Str).length = 1 := rfl
 rw [e] at this
 omega
end Mine
namespace L2
open PySem PySem.Spec PyProof.Rows
section
variable {X : Cx}
def Jh (K : Frag) : List V -> Hp -> VK -> Prop := fun xs H Q => ∃ x t n b, xs = [x, .ty n] /\ pF K H x t /\ kitOne K t (.type n) = some b /\ Q (.bl b) H
theorem gb : jg X (.builtin "isinstance") (Jh X.K) := by
 intro pins s σ H xs us Q I r h
 obtain ⟨x, t, n, b, rfl, ty, e, q⟩ := h
 obtain ⟨u, u2, rfl, rx, ry⟩ := vals2 r
 cases (show u2 = Value.type n from ry)
 exact vJ I rx ty e fun tk => ⟨.bl b, H, I.tok tk, rfl, q⟩
theorem lU {K : Frag} {n : String} : kitOne K (.type n) (.type n) = some true := by
 unfold kitOne
 rw [if_pos Z2]
theorem Bt {ys : List Str} : ∀ {us : List Value}, Vals (ys.map V.str) us -> StrsAre us ys := by
 induction ys with
 | nil => intro us r; rw [map_nil] at r; cases r; exact .nil
 | cons y ys ih =>
  intro us r
  rw [map_cons] at r
  cases r with
  | cons r1 r2 =>
   obtain ⟨t, e⟩ := r1
   subst e
   exact .cons y t (ih r2)
theorem vI : ∀ (l : List (Str × Tok)), Vals ((l.map (·.1)).map V.str) (strValues l)
 | [] => .nil
 | (y, t) :: l => .cons ⟨t, rfl⟩ (vI l)
def rJoin (K : Frag) : V -> List V -> Hp -> VK -> Prop := fun x vs H Q => ∃ sep p ys, x = .str sep /\ vs = [.ref p] /\ (SqL K H p (ys.map V.str) \/ SqT K H p (ys.map V.str)) /\
 (ys.map (·.length)).sum + ys.length * sep.length <= 16777216 /\ Q (.str (Txt.join sep ys)) H
theorem sY : MtR X "str.join" (rJoin X.K) := by
 intro pins s σ H x vs v us Q I rx rv h
 obtain ⟨sep, p, ys, rfl, rfl, hq, hz, q⟩ := h
 obtain ⟨t, rfl⟩ := rx
 obtain ⟨u, rfl, ru⟩ := vals1 rv
 cases (show u = Value.ref p from ru)
 rcases hq with hq | hq
 ·obtain ⟨its, r, pl, _⟩ := I.list hq
  exact join_list pl.isList (by simpa using Bt r) hz fun t' k => ⟨.str _, H, I.tok k, ⟨t', rfl⟩, q⟩
 ·obtain ⟨its, r, pl, _⟩ := I.tuple hq
  exact join_tuple pl (by simpa using Bt r) hz fun t' k => ⟨.str _, H, I.tok k, ⟨t', rfl⟩, q⟩
def Kq : V -> List V -> Hp -> VK -> Prop := fun x vs H Q => ∃ z sep, x = .str z /\ vs = [.str sep] /\ (sep.length == 0) = false /\ z.length + 2 <= sizeLine /\
 ∀ p, H p = none -> Q (.ref p) (upd H p (.lst ((Txt.split z sep).map V.str)))
theorem DG (z sep : Str) (h : z.length + 2 <= sizeLine) : (Txt.split z sep).length <= sizeLine := by
 unfold Txt.split
 split
 ·simp; omega
 ·split
  ·simp; omega
  ·have e1 := StrLaws.occ_length_le z sep 0 z.length (z.length + 1)
   rw [length_partsBetween]; omega
theorem Gd : MtR X "str.split" Kq := by
 intro pins s σ H x vs v us Q I rx rv h
 obtain ⟨z, sep, rfl, rfl, hy, hz, q⟩ := h
 obtain ⟨t, rfl⟩ := rx
 obtain ⟨u, rfl, ru⟩ := vals1 rv
 obtain ⟨t2, rfl⟩ := ru
 have fin : ∀ (l : List (Str × Tok)) (k : Nat), l.map (·.1) = Txt.split z sep ->
   EP X pins σ Q (.ref s.heap.objs.size) { s with heap := s.heap.push { cls := .type "list", data := .seq (strValues l).toArray }, toks := k } := fun l k e => by
  have hv := vI l
  rw [e] at hv
  exact ⟨.ref s.heap.objs.size, _, I.lnew hv (by rw [length_map]; exact DG z sep hz), rfl, q _ I.fresh⟩
 have few : (Builtin.Str.partsBetween z (Builtin.Str.occurrences z sep 0 z.length (z.length + 1)) sep.length).length <= sizeLine := by
  have e1 := StrLaws.occ_length_le z sep 0 z.length (z.length + 1)
  rw [length_partsBetween]; omega
 cases h1 : (decide (z.length < sep.length) || decide (Builtin.Str.strKind z < Builtin.Str.strKind sep))
 ·cases hf : (Builtin.Str.occurrences z sep 0 z.length (z.length + 1)).isEmpty
  ·refine call_meets F.slot_str_split (typeIs_str _ _ _) F.entry_str_split (F.args_str_split_2 _ _) (meets_str_split_sep z sep t t2 h1 hy hf Z1 few) ?_
   rw [strsFrom_eq]
   exact fin (numbered s.toks _) _ ((numbered_texts _ _).trans (by unfold Txt.split; rw [if_neg (by rw [h1]; exact Bool.false_ne_true), if_neg (by rw [hf]; exact Bool.false_ne_true)]))
  ·refine call_meets F.slot_str_split (typeIs_str _ _ _) F.entry_str_split (F.args_str_split_2 _ _) (meets_str_split_not_found z sep t t2 h1 hy hf) ?_
   exact fin [(z, t)] s.toks (by unfold Txt.split; rw [if_neg (by rw [h1]; exact Bool.false_ne_true), if_pos hf] <;> rfl)
 ·refine call_meets F.slot_str_split (typeIs_str _ _ _) F.entry_str_split (F.args_str_split_2 _ _) (meets_str_split_cannot_occur z sep t t2 h1) ?_
  exact fin [(z, t)] s.toks (by unfold Txt.split; rw [if_pos h1] <;> rfl)
def JC : V -> List V -> Hp -> VK -> Prop := fun x vs H Q => ∃ z sep, x = .str z /\ vs = [.str sep] /\ (sep.length == 0) = false /\ z.length <= sizeLine /\
 ∀ p, H p = none -> Q (.ref p) (upd H p (.tup [.str (Txt.rpartition z sep).1, .str (Txt.rpartition z sep).2.1, .str (Txt.rpartition z sep).2.2]))
theorem Inv.tnew {pins : OP} {σ : St} {H : Hp} {s : Shared} {ys : List V} {its : List Value} {t' : Nat} (I : Inv X pins σ H s) (hv : Vals ys its) (hz : ys.length <= sizeLine) :
  Inv X pins σ (upd H s.heap.objs.size (.tup ys)) { s with heap := s.heap.push { cls := .type "tuple", data := .seq its.toArray }, toks := t' } :=
 I.laid (fun b o e => Heap.get?_push_of_some _ e) (le_refl _) (show bM X.prog X.w _ _ _ (.tup ys) from ⟨hz, its, hv, IsTup.new _ _⟩)
theorem t7 (a b c : Str) (t u v : Tok) : Vals [.str a, .str b, .str c] [.str a t, .str b u, .str c v] := .cons ⟨t, rfl⟩ (.cons ⟨u, rfl⟩ (.cons ⟨v, rfl⟩ .nil))
theorem Gn : MtR X "str.rpartition" JC := by
 intro pins s σ H x vs v us Q I rx rv h
 obtain ⟨z, sep, rfl, rfl, hy, hz, q⟩ := h
 obtain ⟨t, rfl⟩ := rx
 obtain ⟨u, rfl, ru⟩ := vals1 rv
 obtain ⟨t2, rfl⟩ := ru
 refine call_meets F.slot_str_rpartition (typeIs_str _ _ _) F.entry_str_rpartition (F.args_str_rpartition_2 _ _) (meets_str_rpartition z sep t t2 hy hz) ?_
 have q' := q
 unfold Txt.rpartition at q'
 revert q'
 cases Builtin.Str.lastOccurrence z sep 0 z.length with
 | none => intro q'; exact ⟨.ref s.heap.objs.size, _, I.tnew (t7 _ _ _ _ _ _) (by show 3 <= sizeLine; decide), rfl, q' _ I.fresh⟩
 | some i => intro q'; exact ⟨.ref s.heap.objs.size, _, I.tnew (t7 _ _ _ _ _ _) (by show 3 <= sizeLine; decide), rfl, q' _ I.fresh⟩
end
theorem xV {env : Env} : ∀ (ns : List (Str × NameKind)) (acc : List (Str × Addr)), (∀ y ∈ ns, y.2 = .free -> ∃ c, env.cells.lookup y.1 = some c) -> (∀ p ∈ acc, env.cells.lookup p.1 = some p.2) ->
  ∃ cl : List (Str × Addr), (forIn ns acc fun (y : Str × NameKind) (cs : List (Str × Addr)) => (match y with
   | (name, kind) => if (kind == NameKind.free) = true then (do let c <- cellOf env name; pure (ForInStep.yield ((name, c) :: cs))) else pure (ForInStep.yield cs) : Sem (ForInStep (List (Str × Addr))))) = pure cl /\
   (∀ p ∈ cl, env.cells.lookup p.1 = some p.2) /\ (∀ p ∈ acc, p ∈ cl) /\ ∀ y ∈ ns, y.2 = .free -> ∃ c, (y.1, c) ∈ cl
 | [], acc, _, ha => ⟨acc, rfl, ha, fun _ h => h, fun _ h => nomatch h⟩
 | (n, k) :: r, acc, hn, ha => by
  have hr : ∀ y ∈ r, y.2 = .free -> ∃ c, env.cells.lookup y.1 = some c := fun y hy => hn y (mem_cons_of_mem _ hy)
  by_cases hk : k = NameKind.free
  ·subst hk
   obtain ⟨c, hc⟩ := hn (n, .free) mem_cons_self rfl
   have hc' : env.cells.lookup n = some c := hc
   obtain ⟨cl, e, h1, h2, h3⟩ := xV r ((n, c) :: acc) hr (fun p hp => by
    rcases mem_cons.mp hp with rfl | hp
    ·exact hc'
    ·exact ha p hp)
   refine ⟨cl, ?_, h1, fun p hp => h2 p (mem_cons_of_mem _ hp), fun y hy hf => ?_⟩
   ·rw [List.forIn_cons]
    have e1 : cellOf env n = pure c := by unfold cellOf; rw [hc']
    simp only [beq_self_eq_true, if_true, e1, pure_bind]
    exact e
   ·rcases mem_cons.mp hy with rfl | hy
    ·exact ⟨c, h2 _ mem_cons_self⟩
    ·exact h3 y hy hf
  ·obtain ⟨cl, e, h1, h2, h3⟩ := xV r acc hr ha
   refine ⟨cl, ?_, h1, h2, fun y hy hf => ?_⟩
   ·rw [List.forIn_cons]
    have hb : (k == NameKind.free) = false := by simpa using hk
    simp only [hb, Bool.false_eq_true, if_false, pure_bind]
    exact e
   ·rcases mem_cons.mp hy with rfl | hy
    ·exact absurd hf hk
    ·exact h3 y hy hf
theorem vq {α : Type} : ∀ {l : List (Str × α)} {x : Str} {c : α}, (x, c) ∈ l -> ∃ d, l.lookup x = some d
 | [], _, _, h => nomatch h
 | (y, d) :: r, x, c, h => by
  by_cases e : x = y
  ·subst e; exact ⟨d, by simp [lookup_cons]⟩
  ·have hb : (x == y) = false := by simpa using e
   rcases mem_cons.mp h with z | z
   ·cases z; exact absurd rfl e
   ·obtain ⟨d', h'⟩ := vq z
    exact ⟨d', by simp only [lookup_cons, hb]; exact h'⟩
theorem Iz {scope : Scope} {env : Env} (h : ∀ y ∈ scope.names, y.2 = .free -> ∃ c, env.cells.lookup y.1 = some c) :
  ∃ cl : List (Str × Addr), closureFor scope env = pure cl /\ (∀ x c, cl.lookup x = some c -> env.cells.lookup x = some c) /\ ∀ x, (x, NameKind.free) ∈ scope.names -> ∃ c, cl.lookup x = some c := by
 obtain ⟨cl, e, h1, _, h3⟩ := xV (env := env) scope.names [] h (fun p hp => nomatch hp)
 refine ⟨cl, ?_, fun x c q => h1 (x, c) (PySem.mem_of_lookup q), fun x hx => ?_⟩
 ·simp only [closureFor]
  simp only [bind_pure]
  exact e
 ·obtain ⟨c, hc⟩ := h3 (x, .free) hx rfl
  exact vq hc
def p6 (osc sc : Scope) (oN : List Str) : List (Option Nat) -> List Str -> Bool
 | [], [] => true
 | none :: r, _ :: n => p6 osc sc oN r n
 | some k :: r, x :: n => (oN[k]? == some x) && (sc.names.lookup x == some .free) && p6 osc sc oN r n
 | _, _ => false
theorem uB {osc sc : Scope} {oN : List Str} : ∀ {ix : List (Option Nat)} {N : List Str}, p6 osc sc oN ix N = true -> ix.length = N.length
 | [], [], _ => rfl
 | none :: _, _ :: _, h => congrArg (· + 1) (uB (by simpa [p6] using h))
 | some _ :: _, _ :: _, h => congrArg (· + 1) (uB (by simp [p6] at h; exact h.2))
 | [], _ :: _, h => by simp [p6] at h
 | none :: _, [], h => by simp [p6] at h
 | some _ :: _, [], h => by simp [p6] at h
theorem xN {osc sc : Scope} {oN : List Str} : ∀ {ix : List (Option Nat)} {N : List Str} (i k : Nat), p6 osc sc oN ix N = true -> ix[i]? = some (some k) -> ∃ x, N[i]? = some x /\ oN[k]? = some x /\ sc.names.lookup x = some .free
 | [], _, _, _, _, e => by simp at e
 | none :: _, [], _, _, h, _ => by simp [p6] at h
 | some _ :: _, [], _, _, h, _ => by simp [p6] at h
 | none :: r, x :: n, 0, _, _, e => by simp at e
 | none :: r, x :: n, i + 1, k, h, e => by
  obtain ⟨y, h1, h2⟩ := xN (ix := r) (N := n) i k (by simpa [p6] using h) (by simpa using e)
  exact ⟨y, by simpa using h1, h2⟩
 | some j :: r, x :: n, 0, k, h, e => by
  simp [p6] at h
  simp at e
  subst e
  exact ⟨x, Z2, h.1.1, h.1.2⟩
 | some j :: r, x :: n, i + 1, k, h, e => by
  simp [p6] at h
  obtain ⟨y, h1, h2⟩ := xN (ix := r) (N := n) i k h.2 (by simpa using e)
  exact ⟨y, by simpa using h1, h2⟩
def nO (osc : Scope) (oN N : List Str) (ix : List (Option Nat)) (sc : Scope) : Bool :=
 (sc.kind == .function) && sc.names.all (fun y => (y.2 != .cell) && ((y.2 != .local) || (sc.names.lookup y.1 == some .local)) && ((y.2 != .free) || ((osc.names.lookup y.1 == some .cell) || (osc.names.lookup y.1 == some .free)))) && p6 osc sc oN ix N
theorem uJ {env : Env} : ∀ {names : List (Str × NameKind)} {x : Str}, names.lookup x = some .free ->
  (names.map fun (n, k) => if (k == NameKind.free && env.scope.kind == .function && env.kindOf n == some .cell) then (n, NameKind.cell) else (n, k)).lookup x = some .cell \/
  (names.map fun (n, k) => if (k == NameKind.free && env.scope.kind == .function && env.kindOf n == some .cell) then (n, NameKind.cell) else (n, k)).lookup x = some .free
 | [], _, h => by simp at h
 | (n, k) :: r, x, h => by
  have ih := @uJ env r x
  simp only [map_cons]
  cases hx : x == n with
  | true =>
   simp only [lookup_cons, hx] at h
   cases h
   by_cases hc : (NameKind.free == NameKind.free && env.scope.kind == .function && env.kindOf n == some .cell) = true
   ·left; rw [if_pos hc]; simp only [lookup_cons, hx]
   ·right; rw [if_neg hc]; simp only [lookup_cons, hx]
  | false =>
   simp only [lookup_cons, hx] at h
   by_cases hc : (k == NameKind.free && env.scope.kind == .function && env.kindOf n == some .cell) = true
   ·rw [if_pos hc]; simp only [lookup_cons, hx]; exact ih h
   ·rw [if_neg hc]; simp only [lookup_cons, hx]; exact ih h
theorem uE {env : Env} : ∀ {names : List (Str × NameKind)} {x : Str}, (∀ y ∈ names, y.2 ≠ NameKind.cell) ->
  ((names.map fun (n, k) => if (k == NameKind.free && env.scope.kind == .function && env.kindOf n == some .cell) then (n, NameKind.cell) else (n, k)).lookup x = some .cell \/
  (names.map fun (n, k) => if (k == NameKind.free && env.scope.kind == .function && env.kindOf n == some .cell) then (n, NameKind.cell) else (n, k)).lookup x = some .free) -> (x, NameKind.free) ∈ names
 | [], _, _, h => by simp at h
 | (n, k) :: r, x, hn, h => by
  have ih := @uE env r x fun y hy => hn y (mem_cons_of_mem _ hy)
  simp only [map_cons] at h
  by_cases hc : (k == NameKind.free && env.scope.kind == .function && env.kindOf n == some .cell) = true
  ·rw [if_pos hc] at h
   cases hx : x == n with
   | true =>
    have e : x = n := by simpa using hx
    have e2 : k = NameKind.free := by simp at hc; exact hc.1.1
    subst e; subst e2
    exact mem_cons_self
   | false =>
    simp only [lookup_cons, hx] at h
    exact mem_cons_of_mem _ (ih h)
  ·rw [if_neg hc] at h
   cases hx : x == n with
   | true =>
    have e : x = n := by simpa using hx
    subst e
    simp only [lookup_cons, hx] at h
    rcases h with h | h
    ·cases h; exact absurd rfl (hn (x, .cell) mem_cons_self)
    ·cases h; exact mem_cons_self
   | false =>
    simp only [lookup_cons, hx] at h
    exact mem_cons_of_mem _ (ih h)
def blk (X : Cx) (N : List Str) (sc : Scope) (cl : List (Str × Addr)) (C : Addr) (fp : List Addr) (s : Shared) (H : Hp) : Cx :=
 { X with N := N, s₀ := s, H₀ := H, env := compEnvC sc cl C X.env, outer := X.stack, ex := fp, fn := fun _ => false, pn := [], xe := fun _ _ => False }
def lift (ix : List (Option Nat)) (σ : St) : St := ix.map fun o => o.bind fun k => (σ[k]?).bind id
def PF (X : Cx) (ifs : List Expr) (t : TT) : Prop :=
 ∀ (pins : OP) (s : Shared) (σ : St) (H : Hp) (Q : Bool -> Hp -> Prop), Inv X pins σ H s -> t σ H Q ->
  wpAny (model X.prog X.w) X.A (forIn ifs true fun c r => if r = true then do let ok <- isTrue c X.env (eval c X.env); pure (ForInStep.yield ok) else pure (ForInStep.yield r)) (TP X pins σ Q) X.xe s
def CK : TT := fun _ H Q => Q true H
theorem jL {X : Cx} : PF X [] CK := fun pins s σ H Q I h => wpAny_tests_nil ⟨H, I, h⟩
theorem wH {X : Cx} {c : Expr} {t : TT} (hc : PT X c t) : PF X [c] t := fun pins s σ H Q I h => wpAny_tests_one (hc pins s σ H Q I h)
def ph (g : TG) (tf : TT) (te : TE) (J : It) (σ0 : St) (H1 : Hp) (Fin : List V -> Hp -> Prop) : Prop :=
 ∃ W : Nat -> Nat -> St -> List V -> Hp -> Prop, (∃ m, W 0 m σ0 [] H1) /\ ∀ i m τ ys H, W i m τ ys H ->
  (J.stop i H /\ Fin ys H) \/ (J.go i H /\ ∀ x H', J.yld i H x H' -> g x τ H' fun τ2 H2 => tf τ2 H2 fun b H3 =>
   if b = true then te τ2 H3 fun y H4 => ys.length < sizeLine /\ ∃ m', m' < m /\ W (i + 1) m' τ2 (ys ++ [y]) H4 else ∃ m', m' < m /\ W (i + 1) m' τ2 ys H3)
def GD (ix : List (Option Nat)) (wi : TI) (g : TG) (tf : TT) (te : TE) : TE := fun σ H Q => wi σ H fun J H1 => ph g tf te J (lift ix σ) H1 fun ys H' => ∀ p, H' p = none -> Q (.ref p) (upd H' p (.lst ys))
theorem Mp {P : Program} {w : World} {A : Around} {R : Result -> Shared -> Prop} {s : Shared} {el tg src : Expr} {fs : List Expr} {sc : Scope} {ps : Pos} {iv ac : Value} {en : Env} (J : Nat -> Shared -> Prop)
  (turn : ∀ n s, J n s -> wpAny (model P w) A (pyNext iv) (fun r s1 => match r with
   | none => R (.ok .next) s1
   | some v => wpAny (model P w) A (letOwnedTupleGo tg iv v) (fun _ s2 => wpAny (model P w) A (assign tg en v) (fun _ s3 =>
     wpAny (model P w) A (forIn fs true fun c r => if r = true then do let ok <- isTrue c en (eval c en); pure (ForInStep.yield ok) else pure (ForInStep.yield r)) (fun ok s4 =>
      if ok = true then wpAny (model P w) A (eval el en) (fun x s5 => wpAny (model P w) A (call (.builtin "list.append") [ac, x]) (fun _ s6 => ∃ m, m < n /\ J m s6) (fun _ _ => False) s5) (fun _ _ => False) s4
      else ∃ m, m < n /\ J m s4) (fun _ _ => False) s3) (fun _ _ => False) s2) (fun _ _ => False) s1) (fun _ _ => False) s)
  (n : Nat) (h : J n s) : codeAny (model P w) A (.compLoop (.ListComp el [⟨tg, src, fs, 0⟩] sc ps) 0 iv ac en) R s := by
 have ab : ∀ {α : Type} {t : Sem α} {Q Q' : α -> Shared -> Prop} {E : EV} {s : Shared}, wpAny (model P w) A t Q (fun _ _ => False) s -> (∀ a s, Q a s -> Q' a s) -> wpAny (model P w) A t Q' E s :=
  fun h hq => wpAny_mono h hq fun _ _ f => f.elim
 refine codeAny_loop rfl J (fun n s hJ => ?_) n h
 show wpAny _ A ((compTurn (.ListComp el [⟨tg, src, fs, 0⟩] sc ps) 0 iv ac en).onRaise (fun x => do noteFrame x en; theTreesLotGoes x)) _ _ s
 refine wpAny_noted ?_
 rw [compTurn_list]
 refine wpAny_bind (wpAny_standAt (wpAny_bind (ab (turn n s hJ) fun r s1 h1 => ?_)))
 cases r with
 | none => exact wpAny_pure h1
 | some v =>
  refine wpAny_bind (ab h1 fun _ s2 h2 => wpAny_bind (ab h2 fun _ s3 h3 => wpAny_bind (ab h3 fun ok s4 h4 => ?_)))
  cases ok with
  | false => exact wpAny_pure ⟨rfl, h4⟩
  | true => exact wpAny_bind (wpAny_bind (ab h4 fun x s5 h5 => wpAny_bind (ab h5 fun _ s6 h6 => wpAny_pure (wpAny_pure ⟨rfl, h6⟩))))
section
variable {X : Cx} {pins : OP} {σ : St} {H2 : Hp} {s2 : Shared} {N : List Str} {ix : List (Option Nat)} {sc : Scope} {cl : List (Str × Addr)}
theorem Kc (I : Inv X pins σ H2 s2) (hb : nO X.env.scope X.N N ix sc = true) (c1 : ∀ x c, cl.lookup x = some c -> X.env.cells.lookup x = some c) (c2 : ∀ x, (x, NameKind.free) ∈ sc.names -> ∃ c, cl.lookup x = some c)
  {fp : List Addr} (hf : ∀ b ∈ fp, uR X pins H2 b) (hfo : ∀ b ∈ fp, ∃ o, s2.heap.get? b = some o) {C : Addr} (hC : s2.heap.objs.size <= C) : (blk X N sc cl C fp s2 H2).Ok := by
 unfold nO at hb
 simp only [and_eq_true] at hb
 obtain ⟨⟨hk, hn⟩, hi⟩ := hb
 have nocell : ∀ y ∈ sc.names, y.2 ≠ NameKind.cell := fun y hy => by
  have := all_eq_true.mp hn y hy
  simp only [and_eq_true] at this
  simpa using this.1.1
 refine ⟨I.ok.mod, ?_, I.ok.glob, I.ok.blt, hC, fun x y c h1 h2 => I.ok.inj x y c (c1 x c h1) (c1 y c h2), fun x hx => ?_, fun x c hx => ?_, I.ok.hd, I.ok.frames, .inl rfl, fun b hb => ⟨?_, fun x c h => ?_⟩, I.bs, le_trans I.ok.bsz I.sz, fun b o e hb => ?_, fun b hb hs => ?_, I.stack, I.stkFree⟩
 ·show (relabel sc X.env).kind = .function
  exact eq_of_beq hk
 ·exact c2 x (uE nocell hx)
 ·cases hx
 ·show b ≠ C
  obtain ⟨o, e⟩ := hfo b hb
  exact ne_of_lt (lt_of_lt_of_le (Heap.lt_size e) hC)
 ·obtain ⟨_, _, _, _, h5, _⟩ := hf b hb
  exact h5 x c (c1 x c h)
 ·obtain ⟨_, _, _, h4, _, _⟩ := hf b hb
  rcases h4 with h4 | h4
  ·exact I.ok.noex b o e h4
  ·exact absurd (lt_of_lt_of_le (Heap.lt_size (I.ok.bs b o e).1) h4) (lt_irrefl _)
 ·obtain ⟨_, h2, h3, _⟩ := hf b hb
  rcases mem_cons.mp (I.stkSub b hs) with z | z
  ·exact h2 z
  ·exact h3 z
theorem Un.grow {fs ex : List Addr} {H H' : Hp} {h h' : Heap} {D : Addr} {o : HO} (u : Un fs ex H H' h h') (hD : h.objs.size <= D) (hn : H D = none) : Un fs ex H (upd H' D o) h h' := by
 have lt : ∀ {b : Addr} {ob : Obj}, h.get? b = some ob -> b ≠ D := fun e z => by
  subst z; exact absurd (lt_of_lt_of_le (Heap.lt_size e) hD) (lt_irrefl _)
 refine ⟨u.keep, u.slot, fun b ob e n hx => by rw [aA (lt e)]; exact u.free b ob e n hx, u.there, fun b xs e => ?_, fun b ob v e => ?_, fun b ps e => ?_⟩
 ·rw [aA (ak e hn)]; exact u.tups b xs e
 ·rw [aA (ak e hn)]; exact u.frzs b ob v e
 ·obtain ⟨m, q⟩ := u.tbls b ps e
  exact ⟨m, by rw [aA (ak e hn)]; exact q⟩
theorem HOk.grow {P : Program} {w : World} {H : Hp} {h : Heap} {D : Addr} {o : HO} (x : HOk P w H h) (hn : H D = none) (new : bM P w (upd H D o) h D o) : HOk P w (upd H D o) h := fun b u e => by
 by_cases hb : b = D
 ·subst hb; rw [ao] at e; cases e; exact new
 ·rw [aA hb] at e
  exact (x b u e).stay (fun _ _ _ q => q) (fun c q => by rw [aA (ak q hn)]; exact q) fun c xs q => by rw [aA (ak q hn)]; exact q
theorem Hv {ix : List (Option Nat)} {σ : St} {i : Nat} {v : V} (h : (lift ix σ)[i]? = some (some v)) : ∃ k, ix[i]? = some (some k) /\ σ[k]? = some (some v) := by
 unfold lift at h
 rw [getElem?_map] at h
 cases e : ix[i]? with
 | none => rw [e] at h; cases h
 | some o =>
  rw [e] at h
  cases o with
  | none => simp at h
  | some k =>
   refine ⟨k, rfl, ?_⟩
   simp only [Option.map_some, Option.bind_some, Option.some.injEq] at h
   cases q : σ[k]? with
   | none => rw [q] at h; cases h
   | some z => rw [q] at h; have h' : z = some v := h; rw [h']
theorem vN {el tg src : Expr} {ifs : List Expr} {pos : Pos} {g : TG} {tf : TT} {te : TE} {J : It} {fp : List Addr} {it : Addr} {tn : Nat -> Heap -> Prop} {E : EV} {Fin : List V -> Hp -> Prop} {RR : Value -> Addr -> Result -> Shared -> Prop}
  (I : Inv X pins σ H2 s2) (hc : X.calm = true) (hb : nO X.env.scope X.N N ix sc = true) (c1 : ∀ x c, cl.lookup x = some c -> X.env.cells.lookup x = some c) (c2 : ∀ x, (x, NameKind.free) ∈ sc.names -> ∃ c, cl.lookup x = some c)
  (T : Turn X.prog X.w X.K tg J fp it tn) (st : tn 0 s2.heap) (hf : ∀ b ∈ fp, uR X pins H2 b)
  (hg : ∀ C fp, PG (blk X N sc cl C fp s2 H2) tg g) (hfs : ∀ C fp, PF (blk X N sc cl C fp s2 H2) ifs tf) (he : ∀ C fp, PE (blk X N sc cl C fp s2 H2) el te)
  (hW : ph g tf te J (lift ix σ) H2 Fin)
  (hRR : ∀ D C s' ys H', H' D = none -> (∃ m, s'.heap.Ns C m) -> Inv X pins σ (upd H' D (.lst ys)) s' -> uR X pins (upd H' D (.lst ys)) C -> Fin ys H' -> RR (.ref D) C (.ok .next) s') :
  wpAny (model X.prog X.w) X.A (newList []) (fun acc s3 => wpAny (model X.prog X.w) X.A (newFunctionEnv sc X.env.globals cl [] X.env.qual none .none (some X.env)) (fun cenv s4 =>
   codeAny (model X.prog X.w) X.A (.compStart (.ListComp el [⟨tg, src, ifs, 0⟩] sc pos) 0 (.ref it) acc { cenv with scope := relabel sc X.env }) (RR acc cenv.locals) s4) E s3) E s2 := by
 obtain ⟨W, ⟨m0, w0⟩, turn⟩ := hW
 have hb' := hb
 unfold nO at hb'
 simp only [and_eq_true] at hb'
 obtain ⟨⟨hk, hn⟩, hi⟩ := hb'
 have nocell : ∀ y ∈ sc.names, y.2 ≠ NameKind.cell := fun y hy => by
  have := all_eq_true.mp hn y hy
  simp only [and_eq_true] at this
  simpa using this.1.1
 have hkind : sc.kind = .function := eq_of_beq hk
 refine wpAny_newObj_type (wpAny_newFunctionEnv nocell (by intro y hy; simp at hy) (fun h1 hns hsb => ?_) hkind)
 dsimp only at hns hsb ⊢
 generalize hP : s2.heap.push { cls := .type "list", dict := none, data := .seq ([] : List Value).toArray } = P2 at hns hsb ⊢
 have hC : P2.objs.size = s2.heap.objs.size + 1 := by rw [<- hP, Heap.size_push]
 have hDC : s2.heap.objs.size ≠ P2.objs.size := by rw [hC]; exact ne_of_lt (lt_succ_self _)
 have hCle : s2.heap.objs.size <= P2.objs.size := by rw [hC]; omega
 have fpo : ∀ b ∈ fp, ∃ o, s2.heap.get? b = some o := fun b hb => let ⟨o, e, _⟩ := T.obj _ _ st b hb; ⟨o, e⟩
 have old : ∀ b o, s2.heap.get? b = some o -> h1.get? b = some o := fun b o e => by
  refine (hsb.2 b ?_).trans (Heap.get?_push_of_some _ (hP ▸ Heap.get?_push_of_some _ e))
  rw [hC]; exact ne_of_lt (Nat.lt_succ_of_lt (Heap.lt_size e))
 have hacc : h1.get? s2.heap.objs.size = some { cls := .type "list", dict := none, data := .seq ([] : List Value).toArray } :=
  (hsb.2 _ hDC).trans (Heap.get?_push_of_some _ (hP ▸ Heap.get?_push_size _ rfl))
 have bok : (blk X N sc cl P2.objs.size fp s2 H2).Ok := Kc I hb c1 c2 hf fpo hCle
 have frD : ∀ {b : Addr}, s2.heap.objs.size <= b -> b ∉ frs X.stack := fun hb hz => by
  rcases mem_cons.mp (I.stkSub _ hz) with z | z
  ·exact absurd (z ▸ hb) (Nat.not_le.mpr I.lt)
  ·exact I.nofs hb z
 have cellD : ∀ x c, cl.lookup x = some c -> c < s2.heap.objs.size := fun x c e => by
  obtain ⟨v, q⟩ := I.cell x c (c1 x c e)
  exact q.lt
 have I0 : Inv (blk X N sc cl P2.objs.size fp s2 H2) [(s2.heap.objs.size, { cls := .type "list", dict := none, data := .seq ([] : List Value).toArray })] (lift ix σ) H2 { s2 with heap := h1, toks := s2.toks + ([] : List (Str × Value)).length } := by
  refine ⟨bok, rfl, I.bare, Un.kept old, ⟨_, hns, fun i x v e1 e2 e3 => ?_⟩, fun x c e => ?_, I.hok.fresh hCle, fun x c e => I.freeC x c (c1 x c e), fun p hp => ?_, I.hok.kept old, ?_⟩
  ·obtain ⟨k, q1, q2⟩ := Hv e2
   obtain ⟨y, z1, z2, z3⟩ := xN i k hi q1
   have e1' : N[i]? = some x := e1
   rw [e1'] at z1
   cases z1
   have hin : (x, NameKind.free) ∈ sc.names := PySem.mem_of_lookup z3
   obtain ⟨c, hcl⟩ := c2 x hin
   have okind : X.env.scope.names.lookup x = some .cell \/ X.env.scope.names.lookup x = some .free := by
    have := all_eq_true.mp hn _ hin
    simp only [and_eq_true] at this
    simpa using this.2
   obtain ⟨m, hm, hl⟩ := I.loc
   obtain ⟨u, r, l⟩ := hl k x v z2 q2 (by rcases okind with z | z; exact .inr (.inl z); exact .inr (.inr z))
   refine ⟨u, r, .inr ⟨uJ z3, c, hcl, ?_⟩⟩
   rcases l with ⟨lk, _⟩ | ⟨_, c', hc', z⟩
   ·have lk' : X.env.scope.names.lookup x = some .local := lk
    rcases okind with q | q <;> rw [q] at lk' <;> cases lk'
   ·rw [c1 x c hcl] at hc'
    cases hc'
    obtain ⟨oc, ho, hd⟩ := z
    exact ⟨oc, old _ _ ho, hd⟩
  ·obtain ⟨v, oc, ho, hd⟩ := I.cell x c (c1 x c e)
   exact ⟨v, oc, old _ _ ho, hd⟩
  ·have hp' : p = (s2.heap.objs.size, { cls := .type "list", dict := none, data := .seq ([] : List Value).toArray }) := by
    rcases mem_append.mp hp with z | z
    ·exact absurd (show p ∈ ([] : OP) from z) Z2
    ·simpa using z
   subst hp'
   exact ⟨hacc, I.fresh, hDC, frD (le_refl _), fun v z => by cases z⟩
  ·show (lift ix σ).length = N.length
   unfold lift
   rw [length_map]
   exact uB hi
 have stat : ∀ {o : Obj} {H' : Hp}, (∀ b ∈ fp, H' b = none) -> ∀ b ∈ fp, uR (blk X N sc cl P2.objs.size fp s2 H2) [(s2.heap.objs.size, o)] H' b := fun {o H'} hz b hb => by
  obtain ⟨_, g2, g3, g4, g5, g6⟩ := hf b hb
  obtain ⟨ob, eb⟩ := fpo b hb
  have lb := Heap.lt_size eb
  refine ⟨hz b hb, ?_, ?_, .inl hb, fun x c e => g5 x c (c1 x c e), fun p hp => ?_⟩
  ·show b ≠ P2.objs.size
   rw [hC]; exact ne_of_lt (Nat.lt_succ_of_lt lb)
  ·intro hz
   rcases mem_cons.mp (I.stkSub b hz) with z | z
   ·exact g2 z
   ·exact g3 z
  ·have hp' : p = (s2.heap.objs.size, o) := by
    rcases mem_append.mp hp with z | z
    ·exact absurd (show p ∈ ([] : OP) from z) Z2
    ·simpa using z
   subst hp'
   show s2.heap.objs.size ≠ b
   exact ne_of_gt lb
 have loop : ∀ s4 : Shared, s4 = { s2 with heap := h1, toks := s2.toks + ([] : List (Str × Value)).length } ->
   codeAny (model X.prog X.w) X.A (.compLoop (.ListComp el [⟨tg, src, ifs, 0⟩] sc pos) 0 (.ref it) (.ref s2.heap.objs.size) (compEnvC sc cl P2.objs.size X.env)) (RR (.ref s2.heap.objs.size) P2.objs.size) s4 := by
  rintro s4 rfl
  refine Mp (fun n s' => ∃ (i : Nat) (τ : St) (ys : List V) (its : List Value) (k : Nat) (H' : Hp), Vals ys its /\ ys.length <= sizeLine /\
    Inv (blk X N sc cl P2.objs.size fp s2 H2) [(s2.heap.objs.size, { cls := .type "list", data := .seq its.toArray k })] τ H' s' /\ tn i s'.heap /\ (∀ b ∈ fp, H' b = none) /\ W i n τ ys H') ?_ m0
   ⟨0, _, [], [], 0, H2, .nil, zero_le _, I0, T.keep _ _ _ st fun b _ o e => old b o e, fun b hb => (hf b hb).1, w0⟩
  rintro n s5 ⟨i, τ, ys, its, k, H5, rv, hz, I5, st5, fr5, w5⟩
  rcases turn i n τ ys H5 w5 with ⟨stop, fin⟩ | ⟨go, step⟩
  ·refine thn (T.done (blk X N sc cl P2.objs.size fp s2 H2) rfl rfl rfl hc i _ s5 τ H5 (fun _ _ => False) I5 (stat fr5) st5 stop) fun r s6 ⟨hr, I6⟩ => ?_
   subst hr
   obtain ⟨m, hns6, _⟩ := I6.loc
   obtain ⟨gD, fD, _, _, _⟩ := I6.pin (s2.heap.objs.size, { cls := .type "list", data := .seq its.toArray k }) (mem_append_right _ Z2)
   have fD' : H5 s2.heap.objs.size = none := fD
   refine hRR _ _ s6 ys H5 fD' ⟨m, hns6⟩ ?_ (I.fpOk hCle ?_) fin
   ·refine I.call' (ch := fp) I6.os (Un.grow I6.base (le_refl _) I.fresh) (HOk.grow I6.hok fD' ⟨hz, its, k, rv, gD⟩) I6.bare fun b hb => ?_
    obtain ⟨_, g2, _, g4, g5, g6⟩ := hf b hb
    exact ⟨g4, g2, g5, g6⟩
   ·rw [aA (Ne.symm hDC)]
    exact I6.free
  ·refine thn (T.item (blk X N sc cl P2.objs.size fp s2 H2) rfl rfl rfl hc i _ s5 τ H5 (fun _ _ => False) I5 (stat fr5) st5 go) fun r s6 ⟨u, hr, h6⟩ => ?_
   subst hr
   refine thn h6 fun _ s7 ⟨x, H7, I7, r7, y7, st7, fr7⟩ => ?_
   have I7' := I7.pinned (stat fr7) (T.obj _ _ st7)
   refine thn (hg _ _ _ s7 τ H7 x u _ I7' r7 (step x H7 y7)) fun _ s8 ⟨τ8, H8, I8, q8⟩ => ?_
   refine thn (hfs _ _ _ s8 τ8 H8 _ I8 q8) fun ok s9 ⟨H9, I9, q9⟩ => ?_
   have tail : ∀ {s' : Shared} {τ' : St} {H' : Hp}, Inv (blk X N sc cl P2.objs.size fp s2 H2) ([(s2.heap.objs.size, { cls := .type "list", data := .seq its.toArray k })] ++ uL fp s7.heap) τ' H' s' ->
     (s'.heap.get? s2.heap.objs.size = some { cls := .type "list", data := .seq its.toArray k } /\ H' s2.heap.objs.size = none) /\ (∀ b ∈ fp, ∀ o, s7.heap.get? b = some o -> s'.heap.get? b = some o) /\ ∀ b ∈ fp, H' b = none := fun {s' τ' H'} I' => by
    refine ⟨?_, fun b hb o e => (I'.pin (b, o) (mem_append_right _ (mem_append_right _ (m9 hb e)))).1, fun b hb => ?_⟩
    ·obtain ⟨a1, a2, _⟩ := I'.pin (s2.heap.objs.size, { cls := .type "list", data := .seq its.toArray k }) (mem_append_right _ (mem_append_left _ Z2))
     exact ⟨a1, a2⟩
    ·obtain ⟨o, e, _⟩ := T.obj _ _ st7 b hb
     exact (I'.pin (b, o) (mem_append_right _ (mem_append_right _ (m9 hb e)))).2.1
   cases ok with
   | false =>
    obtain ⟨m', hm, w9⟩ := q9
    obtain ⟨_, k2, k3⟩ := tail I9
    exact ⟨m', hm, i + 1, τ8, ys, its, k, H9, rv, hz, I9.unpinned, T.keep _ _ _ st7 k2, k3, w9⟩
   | true =>
    refine thn (he _ _ _ s9 τ8 H9 _ I9 q9) fun v s10 ⟨y, H10, I10, r10, hl, m', hm, w10⟩ => ?_
    obtain ⟨⟨gD, fD⟩, k2, k3⟩ := tail I10
    have hlen := rv.length
    refine call_meets F.slot_list_append ⟨_, gD, rfl⟩ F.entry_list_append (F.args_list_append_2 _ _) (PySem.list_append s2.heap.objs.size its.toArray k v (by rw [size_toArray]; omega)) ⟨gD, ?_⟩
    obtain ⟨k', q⟩ : ∃ k', (s10.heap.update s2.heap.objs.size (Obj.mapSeq (·.push v))).get? s2.heap.objs.size = some { cls := .type "list", data := .seq (its ++ [v]).toArray k' } := by
     have q := PySem.IsL.update gD (·.push v)
     rw [show (its.toArray.push v) = (its ++ [v]).toArray from by simp] at q
     exact ⟨_, q⟩
    have other : ∀ b o, b ≠ s2.heap.objs.size -> s10.heap.get? b = some o -> (s10.heap.update s2.heap.objs.size (Obj.mapSeq (·.push v))).get? b = some o := fun b o hb e => (Heap.get?_update_other s10.heap _ (Ne.symm hb)).trans e
    have Ia : Inv (blk X N sc cl P2.objs.size fp s2 H2) [] τ8 H10 { s10 with heap := s10.heap.update s2.heap.objs.size (Obj.mapSeq (·.push v)), toks := s10.toks } :=
     (I10.pins_of (pins' := []) fun p hp => nomatch hp).turned other fD hDC (.inr (le_refl _)) (fun x c e => ne_of_lt (cellD x c e)) fun p hp => absurd (show p ∈ ([] : OP) from hp) Z2
    refine ⟨m', hm, i + 1, τ8, ys ++ [y], its ++ [v], k', H10, rv.append (.cons r10 .nil), by rw [length_append, length_singleton]; omega, ?_, T.keep _ _ _ st7 fun b hb o e => ?_, k3, w10⟩
    ·refine Ia.pins_of fun p hp => ?_
     have hp' := mem_singleton.mp hp
     subst hp'
     exact ⟨q, fD, hDC, frD (le_refl _), fun v z => by cases z⟩
    ·obtain ⟨ob, eb⟩ := fpo b hb
     exact other b o (ne_of_lt (Heap.lt_size eb)) (k2 b hb o e)
 exact codeAny_compStart_list (loop _ rfl) (T.self X.A 0 _ _ _ (T.keep _ _ _ st fun b _ o e => old b o e) (loop _ rfl))
end
section
variable {X : Cx} {N : List Str} {ix : List (Option Nat)} {sc : Scope} {el tg src : Expr} {ifs : List Expr} {wi : TI} {g : TG} {tf : TT} {te : TE} {pos : Pos}
theorem Inv.clos {pins : OP} {σ : St} {H : Hp} {s : Shared} (I : Inv X pins σ H s) (hb : nO X.env.scope X.N N ix sc = true) :
  ∃ cl : List (Str × Addr), closureFor sc X.env = pure cl /\ (∀ x c, cl.lookup x = some c -> X.env.cells.lookup x = some c) /\ ∀ x, (x, NameKind.free) ∈ sc.names -> ∃ c, cl.lookup x = some c := by
 refine Iz fun y hy hf => I.ok.has y.1 ?_
 unfold nO at hb
 simp only [and_eq_true] at hb
 have := all_eq_true.mp hb.1.2 y hy
 simp only [and_eq_true] at this
 have h2 := this.2
 rw [hf] at h2
 have h3 : X.env.scope.names.lookup y.1 = some .cell \/ X.env.scope.names.lookup y.1 = some .free := by simpa using h2
 exact h3
theorem vH (hb : nO X.env.scope X.N N ix sc = true) : sc.kind = .function /\ ∀ y ∈ sc.names, y.2 = .local -> sc.names.lookup y.1 = some .local := by
 unfold nO at hb
 simp only [and_eq_true] at hb
 refine ⟨eq_of_beq hb.1.1, fun y hy hl => ?_⟩
 have := all_eq_true.mp hb.1.2 y hy
 simp only [and_eq_true] at this
 have h2 := this.1.2
 rw [hl] at h2
 simpa using h2
theorem kJ (ix : List (Option Nat)) (hc : X.calm = true) (hb : nO X.env.scope X.N N ix sc = true) (hi : PI X tg src wi)
  (hg : ∀ cl C fp s H, PG (blk X N sc cl C fp s H) tg g) (hf : ∀ cl C fp s H, PF (blk X N sc cl C fp s H) ifs tf) (he : ∀ cl C fp s H, PE (blk X N sc cl C fp s H) el te)
  (hs : ∀ x, foldedSetIterable src X.env x = pure x := by intro _; rfl) : PE X (.ListComp el [⟨tg, src, ifs, 0⟩] sc pos) (GD ix wi g tf te) := by
 intro pins s σ H Q I h
 obtain ⟨cl, hcl, c1, c2⟩ := I.clos hb
 obtain ⟨hk, hn⟩ := vH hb
 rw [eval_ListComp]
 refine wpAny_comprehension_free (use := none) rfl hs hcl hk hn (thn (hi pins s σ H _ I h) fun xv s1 h1 => thn h1 fun itv s2 h2 => ?_)
 obtain ⟨it, fp, tn, J, H2, rfl, I2, T, st, f2, hW⟩ := h2
 refine vN (RR := fun acc C => compPost (model X.prog X.w) X.A X.xe none (EP X pins σ Q) acc C) I2 hc hb c1 c2 T st f2 (fun C fp => hg cl C fp s2 H2) (fun C fp => hf cl C fp s2 H2) (fun C fp => he cl C fp s2 H2) hW ?_
 intro D C s' ys H' hD ⟨m, hm⟩ I' fC fin
 refine ⟨m, hm, fun h' hs' => ⟨.ref D, _, ?_, rfl, fin D hD⟩⟩
 obtain ⟨g1, g2, _, g4, g5, g6⟩ := fC
 exact I'.turned (t' := s'.toks) (fun b o hb e => (hs'.2 b hb).trans e) g1 g2 g4 g5 g6
theorem Hi (ix : List (Option Nat)) {i : Nat} {x : Str} {pos' spos : Pos} (hN : X.N.Nodup) (hxi : X.N[i]? = some x) (hx : Loc X.env.scope x) (hc : X.calm = true) (hb : nO X.env.scope X.N N ix sc = true) (hi : PI X tg src wi)
  (hg : ∀ cl C fp s H, PG (blk X N sc cl C fp s H) tg g) (hf : ∀ cl C fp s H, PF (blk X N sc cl C fp s H) ifs tf) (he : ∀ cl C fp s H, PE (blk X N sc cl C fp s H) el te)
  (hsw : swapsWith (.ListComp el [⟨tg, src, ifs, 0⟩] sc pos) (some (.Name x pos')) spos.line X.env = pure true := by rfl)
  (hfn : X.fn x = true \/ X.env.scope.names.lookup x = some .local := by first | exact .inl rfl | exact .inr rfl | assumption)
  (hs : ∀ x, foldedSetIterable src X.env x = pure x := by intro _; rfl) : PS X (.Assign [.Name x pos'] (.ListComp el [⟨tg, src, ifs, 0⟩] sc pos) spos) (Dz (GD ix wi g tf te) (iT i)) := by
 intro pins s σ H D0 I h
 obtain ⟨cl, hcl, c1, c2⟩ := I.clos hb
 obtain ⟨hk, hn⟩ := vH hb
 rw [exec_Assign_Name_used _ _ _ _ hsw]
 refine wpAny_bind (wpAny_standAt (wpAny_bind ?_))
 show wpAny _ X.A (do let _ <- comprehension (.ListComp el [⟨tg, src, ifs, 0⟩] sc pos) sc X.env _ (newList []) false (eval src X.env) (some (assign (.Name x pos') X.env))) _ _ s
 refine wpAny_bind (thn (wpAny_comprehension_free (use := some (assign (.Name x pos') X.env)) (Q := fun _ s' => SP X pins D0 .next s') rfl hs hcl hk hn (thn (hi pins s σ H _ I h) fun xv s1 h1 => thn h1 fun itv s2 h2 => ?_)) fun _ s' hq => wpAny_pure (wpAny_pure hq))
 obtain ⟨it, fp, tn, J, H2, rfl, I2, T, st, f2, hW⟩ := h2
 refine vN (RR := fun acc C => compPost (model X.prog X.w) X.A X.xe (some (assign (.Name x pos') X.env)) (fun _ s' => SP X pins D0 .next s') acc C) I2 hc hb c1 c2 T st f2 (fun C fp => hg cl C fp s2 H2) (fun C fp => hf cl C fp s2 H2) (fun C fp => he cl C fp s2 H2) hW ?_
 intro D C s' ys H' hD ⟨m, hm⟩ I' fC fin
 obtain ⟨g1, g2, _, g4, g5, g6⟩ := fC
 show wpAny _ X.A (assign (.Name x pos') X.env (.ref D)) _ _ _
 refine wpAny_assign_Name (vp (v := .ref D) I' hN hxi hx rfl (fun s'' I'' ⟨a, sb, ha⟩ => ?_) hfn)
 have hCa : C ≠ a := by
  rcases ha with z | z
  ·rw [z]; exact g2
  ·exact fun e => g5 x a z e.symm
 refine ⟨m, hm.sameBut sb hCa, fun h' hs' => ⟨_, _, I''.turned (t' := s''.toks) (fun b o hb e => (hs'.2 b hb).trans e) g1 g2 g4 g5 g6, fin D hD⟩⟩
end
theorem Ab {lo : Int} {n : Nat} {tf : TT} {te : TE} {τ0 : St} {H : Hp} {Fin : List V -> Hp -> Prop} (f : Nat -> V) (hn : n <= sizeLine)
  (hte : ∀ i H' Q, i < n -> az H H' -> (∀ H'', az H' H'' -> Q (f i) H'') -> tf (τ0.set 0 (some (.int (lo + i)))) H' fun b H3 => b = true /\ te (τ0.set 0 (some (.int (lo + i)))) H3 Q)
  (mono : ∀ τ H Q Q', (∀ b H1, Q b H1 -> Q' b H1) -> tf τ H Q -> tf τ H Q')
  (hfin : ∀ H', az H H' -> Fin ((List.range n).map f) H') : ph (iT 0) tf te (Itr lo n) τ0 H Fin := by
 refine ⟨fun i m τ ys H' => m = n - i /\ i <= n /\ ys = (List.range i).map f /\ az H H' /\ ∃ v, τ = τ0.set 0 v \/ τ = τ0, ⟨n, rfl, zero_le _, rfl, az.refl _, none, .inr rfl⟩, ?_⟩
 rintro i m τ ys H' ⟨rfl, hi, rfl, sm, v, hτ⟩
 by_cases hlt : i < n
 ·refine .inr ⟨hlt, fun x H'' y => ?_⟩
  obtain ⟨e, y⟩ := y
  subst e y
  have e2 : τ.set 0 (some (V.int (lo + i))) = τ0.set 0 (some (V.int (lo + i))) := by
   rcases hτ with rfl | rfl
   ·rw [set_set]
   ·rfl
  show tf (τ.set 0 (some (V.int (lo + i)))) H'' _
  rw [e2]
  refine mono _ _ _ _ ?_ (hte i H'' (fun y H4 => ((List.range i).map f).length < sizeLine /\ ∃ m', m' < n - i /\ (m' = n - (i + 1) /\ i + 1 <= n /\ (List.range i).map f ++ [y] = (List.range (i + 1)).map f /\ az H H4 /\ ∃ v, τ0.set 0 (some (V.int (lo + i))) = τ0.set 0 v \/ τ0.set 0 (some (V.int (lo + i))) = τ0)) hlt sm fun H4 s4 => ?_)
  ·rintro b H1 ⟨rfl, q⟩
   rw [if_pos rfl]
   exact q
  ·refine ⟨by rw [length_map, length_range]; omega, n - (i + 1), Z1, rfl, hlt, by rw [range_succ, map_append]; rfl, sm.trans s4, _, .inl rfl⟩
 ·have e : i = n := by omega
  subst e
  exact .inl ⟨le_refl _, hfin H' sm⟩
theorem nG {c A B : Prop} [Decidable c] (h1 : c -> A) (h2 : ¬ c -> B) : if decide c = true then A else B := by
 by_cases h : c
 ·rw [if_pos (decide_eq_true h)]; exact h1 h
 ·rw [if_neg (by simpa using h)]; exact h2 h
theorem zb {i j : Int} {A B : Prop} (h1 : i = j -> A) (h2 : ¬ i = j -> B) : if decide (V.int i = V.int j) = true then A else B :=
 nG (fun h => h1 (V.int.inj h)) fun h => h2 fun e => h (congrArg V.int e)
theorem qH {x y : V} {A B : Prop} (e : x = y) (h : B) : if (!decide (x = y)) = true then A else B := by
 rw [if_neg (by simp [e])]; exact h
theorem az.new {H : Hp} {p : Addr} {o : HO} (h : H p = none) : az H (upd H p o) := fun b u e => by
 rw [aA (ak e h)]; exact e
theorem az.put {H H' : Hp} {p : Addr} {o : HO} (s : az H H') (h : H' p = none) : az H (upd H' p o) := s.trans (az.new h)
theorem az.over {H H' : Hp} {p : Addr} {o : HO} (s : az H H') (h : H p = none) : az H (upd H' p o) := fun b u e => by
 rw [aA (ak e h)]; exact s b u e
structure FnAt (K : Frag) (mg : MG) (x : Str) (st : Stmt) (ps : List Str) (f : Addr) (fd : FuncData) : Prop where
 F : Fun K x x st f fd
 b : Binds K fd ps []
 m : mg x = some (.ref f)
section
variable {X : Cx} {k : Nat} {f : Addr} {fd : FuncData} {ps : List Str} {sp : Sp} {x : Str} {st : Stmt} {p pos : Pos} {e : Expr} {es : List Expr} {t : TA}
theorem bj (A : FnAt X.K X.mg x st ps f fd) (G : aG X.prog X.w X.K X.mg X.base CX0 k f fd ps sp) (hr : aR k X.A) (ha : PA X (e :: es) t) (hg : Gl X x := by rfl)
  (hdb : (x == ("__debug__" : Str)) = false := by decide) (he : starEach (e :: es) X.env = (false, eval e X.env) :: starEach es X.env := by rfl) (hpl : (backTo pos (starEach es X.env)).any (·.1) = false := by rfl) :
  PE X (.Call (.Name x p) (e :: es) [] pos) (Ez sp [] E0 t) := Ij G hr hg A.m A.F.kp A.b .nil bG ha hdb he hpl
end
def Pur (v : V) (H : Hp) (Q : VK) : Prop := ∀ H', az H H' -> Q v H'
end L2
namespace Mine
open PySem PySem.Spec PyProof.Rows L2
def Jg : Sp := fun vs H Q _ => ∃ (c j : Int), vs = [.int c, .int j] /\ 0 <= j /\ j <= 1000 /\ Pur (.int (sub c j)) H Q
def yz : Sp := fun vs H Q _ => ∃ (c far : Int), vs = [.int c, .int far] /\ 0 < far /\ Pur (.int (number c far)) H Q
def tY : Sp := fun vs H Q _ => ∃ (c k m : Int), vs = [.int c, .int k, .int m] /\ 0 <= k /\ k < 40 /\ 0 < m /\ Pur (.int (pick c k m)) H Q
end Mine
namespace L2
open PySem PySem.Spec PyProof.Rows
section
variable {X : Cx}
theorem Jz {bs : List Bool} : ∀ {us : List Value} {i : Nat} {v : Value}, Vals (bs.map V.bl) us -> us[i]? = some v -> v = .bool (bs.getD i false) := by
 induction bs with
 | nil => intro us i v r h; rw [map_nil] at r; cases r; simp at h
 | cons b bs ih =>
  intro us i v r h
  rw [map_cons] at r
  cases r with
  | cons r1 r2 =>
   cases i with
   | zero =>
    have r1' : _ = Value.bool b := r1
    simp at h
    rw [<- h, r1']
    rfl
   | succ i => exact ih r2 (by simpa using h)
theorem range_any (bs : List Bool) : (List.range bs.length).any (fun i => bs.getD i false) = bs.any id := by
 have e : (List.range bs.length).map (fun i => bs.getD i false) = bs := by
  apply ext_getElem
  ·simp
  ·intro i h1 h2
   simp [List.getD_eq_getElem?_getD, h2]
 conv => rhs; rw [<- e]
 rw [List.any_map]; rfl
def Od (K : Frag) (f : List Bool -> Bool) : List V -> Hp -> VK -> Prop := fun xs H Q => ∃ p bs, xs = [.ref p] /\ SqL K H p (bs.map V.bl) /\ Q (.bl (f bs)) H
end
section
variable {X : Cx} {K : Frag}
theorem yX (h : X.K = K) : MtR X "str.join" (rJoin K) := by subst h; exact sY
theorem yF (h : X.K = K) : SlR X (KQ K) := by subst h; exact mK
theorem HF (h : X.K = K) : SlR X (Mg K) := by subst h; exact Jt
theorem Ik (h : X.K = K) : IxR X (Lz K) := by subst h; exact c7
theorem zT (h : X.K = K) : jg X (.builtin "isinstance") (Jh K) := by subst h; exact gb
theorem GP {tg l : Expr} {tl : TE} (h : X.K = K) (hl : PE X l tl) : PI X tg l (Jc K tl) := by subst h; exact bO hl
variable {o e : Expr} {es : List Expr} {to : TE} {t : TA} {name : Str} {apos cpos : Pos} {T id : String} {r : V -> List V -> Hp -> VK -> Prop}
theorem Gk (h : X.K = K) (pa : PlainAttrs T) (slot : Slot T name id) (hty : typeOf (.builtin id) = pure (.type "method_descriptor")) (hm : MtR X id r) (ho : PE X o to) (ha : PA X (e :: es) t)
  (hbase : attributeBase o name X.env (eval o X.env) = eval o X.env := by rfl)
  (hfew : ((backTo cpos (starEach (e :: es) X.env)).all (fun x => !x.1) && (backToKw cpos (keywordEach [] X.env)).all (fun x => x.1.isSome)
   && decide ((e :: es).length + ([] : List Keyword).length + (if ([] : List Keyword).isEmpty then 0 else 1) < 30)) = true := by rfl)
  (hline : (apos.endLine == cpos.line) = true := by rfl) (hs : starEach (e :: es) X.env = (false, eval e X.env) :: starEach es X.env := by rfl) (hplain : (backTo cpos (starEach es X.env)).any (·.1) = false := by rfl) :
  PE X (.Call (.Attribute o name apos) (e :: es) [] cpos) (tBM K T r to t) := by
 subst h
 exact eQ pa slot hty hm ho ha hbase hfew hline hs hplain
end
structure QS (X : Cx) (st : Stmt) (t : TS) : Prop where
 h : PS X st t
structure QSs (X : Cx) (st : List Stmt) (t : TS) : Prop where
 h : PSs X st t
section
variable {X : Cx} {st : Stmt} {rest : List Stmt} {t u : TS} {e : Expr} {te : TE} {pos : Pos}
theorem aU : QSs X [] IV := ⟨sW⟩
theorem aq (h1 : QS X st t) (h2 : QSs X rest u) : QSs X (st :: rest) (Lq t u) := ⟨qm h1.h h2.h⟩
theorem aC (h1 : QS X st t) : QSs X [st] t := ⟨mU h1.h⟩
theorem bh (he : PE X e te) (hs : swapsWith e none pos.line X.env = pure false := by rfl) : QS X (.Expr e pos) (Fg te) := ⟨Io he hs⟩
theorem aM (he : PE X e te) : QS X (.Return (some e) pos) (HD te) := ⟨pB he⟩
theorem bz {c : Expr} {a b : List Stmt} {tc : TT} (hc : PT X c tc) (ha : QSs X a t) (hb : QSs X b u) : QS X (.If c a b pos) (Mi tc t u) := ⟨Cm hc ha.h hb.h⟩
theorem dj {tg iter : Expr} {body : List Stmt} {wi : TI} {g : TG} {tb : TS} (hp : PassesOwn (model X.prog X.w) X.A X.env X.xe) (hc : X.calm = true) (hi : PI X tg iter wi) (hg : PG X tg g) (hb : QSs X body tb) (hs : ∀ x, foldedSetIterable iter X.env x = pure x := by intro _; rfl) : QS X (.For tg iter body [] pos) (K7 wi g tb) := ⟨J1 hp hc hi hg hb.h hs⟩
theorem nW {tg : Expr} {g : TG} (he : PE X e te) (hg : PG X tg g) (hs : swapsWithSole [tg] e pos.line X.env = pure false := by rfl) (hw : swappedStores [tg] e X.env = pure none := by rfl)
  (h1 : (assignEach [tg] X.env).map (·.2) = [assign tg X.env] := by rfl) : QS X (.Assign [tg] e pos) (Dz te g) := ⟨Kw he hg hs hw h1⟩
theorem aO {i : Nat} {x : Str} {pos' : Pos} (hN : X.N.Nodup) (hi : X.N[i]? = some x) (hx : Loc X.env.scope x) (he : PE X e te) (hs : swapsWith e (some (.Name x pos')) pos.line X.env = pure false := by rfl) (hf : X.fn x = true \/ X.env.scope.names.lookup x = some .local := by first | exact .inl rfl | exact .inr rfl | assumption) :
  QS X (.Assign [.Name x pos'] e pos) (Dz te (iT i)) := ⟨Jr hN hi hx he hs hf⟩
end
section
variable {X : Cx} {N : List Str} {sc : Scope} {el tg src : Expr} {ifs : List Expr} {wi : TI} {g : TG} {tf : TT} {te : TE} {pos : Pos}
theorem mX (ix : List (Option Nat)) {i : Nat} {x : Str} {pos' spos : Pos} (hN : X.N.Nodup) (hxi : X.N[i]? = some x) (hx : Loc X.env.scope x) (hc : X.calm = true) (hb : nO X.env.scope X.N N ix sc = true) (hi : PI X tg src wi)
  (hg : ∀ cl C fp s H, PG (blk X N sc cl C fp s H) tg g) (hf : ∀ cl C fp s H, PF (blk X N sc cl C fp s H) ifs tf) (he : ∀ cl C fp s H, PE (blk X N sc cl C fp s H) el te)
  (hsw : swapsWith (.ListComp el [⟨tg, src, ifs, 0⟩] sc pos) (some (.Name x pos')) spos.line X.env = pure true := by rfl)
  (hfn : X.fn x = true \/ X.env.scope.names.lookup x = some .local := by first | exact .inl rfl | exact .inr rfl | assumption)
  (hs : ∀ x, foldedSetIterable src X.env x = pure x := by intro _; rfl) : QS X (.Assign [.Name x pos'] (.ListComp el [⟨tg, src, ifs, 0⟩] sc pos) spos) (Dz (GD ix wi g tf te) (iT i)) :=
 ⟨Hi ix hN hxi hx hc hb hi hg hf he hsw hfn hs⟩
end
structure QA (X : Cx) (es : List Expr) (t : TA) : Prop where
 h : PA X es t
section
variable {X : Cx} {e : Expr} {es : List Expr} {te : TE} {t : TA} {pos : Pos}
theorem Ej : QA X [] Dg := ⟨au⟩
theorem cD (ha : PE X e te) (hr : QA X es t) (hs : starEach (e :: es) X.env = (false, eval e X.env) :: starEach es X.env := by rfl) : QA X (e :: es) (vB te t) := ⟨aj ha hr.h hs⟩
theorem DY (h : QA X es t) : PE X (.List es pos) (KR t) := b8 h.h
end
section
variable {X : Cx} {a b e : Expr} {ta tb te : TE} {es : List Expr} {t : TA} {pos : Pos}
end
section
variable {X : Cx} {x : Str} {pos : Pos}
theorem G9 {y : Int} (h : ∃ t, X.mg x = some (.int y t)) (hg : Gl X x := by rfl) (hd : (x == ("__debug__" : Str)) = false := by decide) : PE X (.Name x pos) (tC (.int y)) := by
 obtain ⟨t, e⟩ := h
 exact BL hg e ⟨t, rfl⟩ hd
end
theorem pY {K : Frag} {n m : String} {b : Bool} (h0 : (Value.type n == Value.type m) = false) (h1 : kitMeta m = true) (h2 : (fastBuiltinMro n).map (·.contains (Value.type m)) = some b) : kitOne K (.type n) (.type m) = some b := by
 unfold kitOne
 rw [if_neg (by rw [h0]; decide)]
 show (if kitMeta m = true then PySem.W.subIn K (.type n) (.type m) else none) = some b
 rw [if_pos h1]
 exact h2
end L2
namespace Mine
open PySem PySem.Spec PyProof.Rows L2 PySem.Builtin PySem.Builtin.Str
theorem wD (a b : Str) : (a ++ b).length = a.length + b.length := by rw [f9, f9, f9, ir, length_append]
theorem yK : 1000 <= sizeLine := by decide
theorem Eo : (("." : Str)).length = 1 := by decide +kernel
end Mine
namespace L2
open PySem PySem.Spec PyProof.Rows
theorem dM {b : Bool} {A B : Prop} (e : b = true) (h : A) : if b = true then A else B := by rw [if_pos e]; exact h
theorem cj {b : Bool} {A B : Prop} (e : b = false) (h : B) : if b = true then A else B := by rw [if_neg (by rw [e]; decide)]; exact h
theorem xx {b : Bool} {A B : Prop} (e : b = true) (h : B) : if (!b) = true then A else B := by rw [if_neg (by rw [e]; decide)]; exact h
theorem JD {b : Bool} {A B : Prop} (e : b = false) (h : A) : if (!b) = true then A else B := by rw [if_pos (by rw [e]; decide)]; exact h
end L2
namespace Mine
open PySem PySem.Spec PyProof.Rows L2 PySem.Builtin PySem.Builtin.Str
def Mj : Str := "0123456789"
def zero : Str := "0"
def inF (c : Nat) : Bool := !(Builtin.Str.occurrences Mj (⟨#[c]⟩ : Str) 0 Mj.length 1).isEmpty
theorem HJ {c : Nat} (h0 : 48 <= c) (h1 : c <= 57) : inF c = true := by
 have h : ∀ n : Fin 10, inF (48 + n.val) = true := by decide +kernel
 have := h ⟨c - 48, Z1⟩
 rwa [show 48 + (⟨c - 48, Z1⟩ : Fin 10).val = c from by show 48 + (c - 48) = c; omega] at this
def Lg (z : Str) : Bool := decide (1 <= z.length) && decide (z.length <= 20) && !(decide (z.cps.toList.head? = some 48) && !decide (z = zero)) && z.cps.toList.all inF
def rR (m : Nat) : Str := Str.ofString (toString ((m : Nat) : Int))
theorem m7 (m : Nat) : (rR m).cps.toList = (Nat.toDigits 10 m).map Char.toNat := PySem.W.KIN.signs_num m
theorem digit_range {m : Nat} {c : Nat} (h : c ∈ (rR m).cps.toList) : 48 <= c /\ c <= 57 := by
 rw [m7] at h
 obtain ⟨d, hd, rfl⟩ := mem_map.mp h
 have := Nat.isDigit_of_mem_toDigits Z0 Z0 hd
 unfold Char.isDigit at this
 simp only [and_eq_true, decide_eq_true_eq] at this
 exact ⟨this.1, this.2⟩
theorem ye : ∀ m : Nat, (Nat.toDigits 10 m).head? = some '0' -> m = 0 := by
 intro m
 induction m using Nat.strongRecOn with
 | _ m ih =>
  intro h
  by_cases hm : m < 10
  ·rw [Nat.toDigits_of_lt_base hm] at h
   have h' : Nat.digitChar m = '0' := by simpa using h
   have : ∀ n : Fin 10, Nat.digitChar n.val = '0' -> n.val = 0 := by decide
   exact this ⟨m, hm⟩ h'
  ·have hd : m % 10 < 10 := Nat.mod_lt m Z0
   have t : Nat.toDigits 10 (m / 10) ++ Nat.toDigits 10 (m % 10) = Nat.toDigits 10 (10 * (m / 10) + m % 10) := Nat.toDigits_append_toDigits Z0 Z1 hd
   rw [Nat.div_add_mod] at t
   rw [<- t] at h
   have hne : Nat.toDigits 10 (m / 10) ≠ [] := Nat.toDigits_ne_nil
   cases e : Nat.toDigits 10 (m / 10) with
   | nil => exact absurd e hne
   | cons a r =>
    rw [e] at h
    have := ih (m / 10) Z1 (by rw [e]; simpa using h)
    omega
theorem uK {a b : Char} (h : a.toNat = b.toNat) : a = b := by
 apply Char.ext
 exact UInt32.toNat_inj.mp h
theorem CP : rR 0 = zero := by decide +kernel
theorem G5 {m : Nat} (h : m < 10 ^ 20) : Lg (rR m) = true /\ (rR m).length <= 20 /\ 1 <= (rR m).length /\ intText? (rR m) = some ((m : Nat) : Int) := by
 have hl : (rR m).length = (Nat.toDigits 10 m).length := by rw [f9, m7, length_map]
 have h1 : 1 <= (rR m).length := by rw [hl]; exact Nat.length_toDigits_pos
 have h2 : (rR m).length <= 20 := by rw [hl]; exact (Nat.length_toDigits_le_iff Z0 Z0).mpr h
 refine ⟨?_, h2, h1, ?_⟩
 ·unfold Lg
  rw [decide_eq_true h1, decide_eq_true h2, all_eq_true.mpr fun c hc => HJ (digit_range hc).1 (digit_range hc).2]
  by_cases hd : (rR m).cps.toList.head? = some 48
  ·have hm : m = 0 := by
    rw [m7, List.head?_map] at hd
    cases e : (Nat.toDigits 10 m).head? with
    | none => rw [e] at hd; cases hd
    | some d =>
     rw [e] at hd
     have : d = '0' := uK (by simpa using hd)
     rw [this] at e
     exact ye m e
   subst hm
   rw [CP, decide_eq_true (rfl : zero = zero)]
   decide +kernel
  ·rw [decide_eq_false hd]; rfl
 ·rw [intText_digits (fun c hc => digit_range hc) (fun z => by rw [f9, z] at h1; simp at h1) Z1, m7, PySem.W.KIN.val_back]
def brk : Str := "()"
end Mine
namespace L2
open PySem PySem.Spec PyProof.Rows
inductive DEq (K : Frag) (H : Hp) : Nat -> V -> V -> Prop where
 | non {n : Nat} : DEq K H n .non .non
 | bl {n : Nat} (b : Bool) : DEq K H n (.bl b) (.bl b)
 | int {n : Nat} (i : Int) : DEq K H n (.int i) (.int i)
 | str {n : Nat} (x : Str) : DEq K H n (.str x) (.str x)
 | same {n : Nat} (a : Addr) : DEq K H n (.ref a) (.ref a)
 | tup {n : Nat} {a b : Addr} {xs ys : List V} (ha : SqT K H a xs) (hb : SqT K H b ys) (hl : xs.length = ys.length) (h : ∀ (i : Nat) x y, xs[i]? = some x -> ys[i]? = some y -> DEq K H n x y) : DEq K H (n + 1) (.ref a) (.ref b)
 | lst {n : Nat} {a b : Addr} {xs ys : List V} (ha : SqL K H a xs) (hb : SqL K H b ys) (hl : xs.length = ys.length) (h : ∀ (i : Nat) x y, xs[i]? = some x -> ys[i]? = some y -> DEq K H n x y) : DEq K H (n + 1) (.ref a) (.ref b)
section
variable {X : Cx} {pins : OP} {σ : St} {H : Hp} {s : Shared}
theorem Vals.at {xs : List V} {us : List Value} (r : Vals xs us) {j : Nat} (h : j < us.length) : ∃ x, xs[j]? = some x /\ RelV x us[j] := by
 have hl := r.length
 have hx : xs[j]? = some xs[j] := getElem?_eq_getElem Z1
 obtain ⟨u, hu, ru⟩ := r.get hx
 rw [getElem?_eq_getElem h] at hu
 cases hu
 exact ⟨_, hx, ru⟩
theorem lV (n : Nat) : (List.range n).all (fun _ => true) = true := by simp
theorem DEq.at (I : Inv X pins σ H s) {n : Nat} {x y : V} (d : DEq X.K H n x y) : ∀ {A : Around} {u v : Value}, A.units + n < cLine -> RelV x u -> RelV y v -> SeqAt.EqAt A s u v true := by
 induction d with
 | non => intro A u v hu ru rv; cases ru; cases rv; exact SeqAt.EqAt.same _
 | bl b => intro A u v hu ru rv; cases ru; cases rv; exact SeqAt.EqAt.same _
 | int i =>
  intro A u v hu ru rv
  obtain ⟨t, rfl⟩ := ru
  obtain ⟨t', rfl⟩ := rv
  have := SeqAt.EqAt.int_int (A := A) (s := s) i t i t'
  rwa [beq_self_eq_true] at this
 | str x =>
  intro A u v hu ru rv
  obtain ⟨t, rfl⟩ := ru
  obtain ⟨t', rfl⟩ := rv
  have := SeqAt.EqAt.str_str (A := A) (s := s) x t x t'
  rwa [beq_self_eq_true] at this
 | same a => intro A u v hu ru rv; cases ru; cases rv; exact SeqAt.EqAt.same _
 | @tup n a b xs ys ha hb hl h ih =>
  intro A u v hu ru rv
  cases ru; cases rv
  by_cases hab : a = b
  ·subst hab; exact SeqAt.EqAt.same _
  ·obtain ⟨us, r1, p1, _⟩ := I.tuple ha
   obtain ⟨ws, r2, p2, _⟩ := I.tuple hb
   have l1 := r1.length
   have l2 := r2.length
   have := SeqAt.RcAt.tuples (A := A) (s := s) (e := fun _ => true) (show s.heap.IsTuple a us.toArray from p1) (show s.heap.IsTuple b ws.toArray from p2) Z1 fun j h1 h2 => by
    have h1' : j < us.length := by simpa using h1
    have h2' : j < ws.length := by simpa using h2
    obtain ⟨x, ex, rx⟩ := r1.at h1'
    obtain ⟨y, ey, ry⟩ := r2.at h2'
    exact ih j x y ex ey (A := A.in1) (show A.units + 1 + n < cLine by omega) (by simpa using rx) (by simpa using ry)
   rw [lV, show (us.toArray.size == ws.toArray.size) = true from by simp; omega] at this
   exact SeqAt.EqAt.of_refs hab this
 | @lst n a b xs ys ha hb hl h ih =>
  intro A u v hu ru rv
  cases ru; cases rv
  by_cases hab : a = b
  ·subst hab; exact SeqAt.EqAt.same _
  ·obtain ⟨us, r1, p1, _⟩ := I.list ha
   obtain ⟨ws, r2, p2, _⟩ := I.list hb
   have l1 := r1.length
   have l2 := r2.length
   have := SeqAt.RcAt.lists (A := A) (s := s) (e := fun _ => true) p1.isList p2.isList (by simp; omega) Z1 fun j h1 h2 => by
    have h1' : j < us.length := by simpa using h1
    have h2' : j < ws.length := by simpa using h2
    obtain ⟨x, ex, rx⟩ := r1.at h1'
    obtain ⟨y, ey, ry⟩ := r2.at h2'
    exact ih j x y ex ey (A := A.in1) (show A.units + 1 + n < cLine by omega) (by simpa using rx) (by simpa using ry)
   rw [lV] at this
   exact SeqAt.EqAt.of_refs hab this
def DSq (K : Frag) (H : Hp) (a b : Addr) : Prop := ∃ (n : Nat) (xs ys : List V), n <= 60 /\ xs.length = ys.length /\ ((SqT K H a xs /\ SqT K H b ys) \/ (SqL K H a xs /\ SqL K H b ys)) /\ ∀ (i : Nat) x y, xs[i]? = some x -> ys[i]? = some y -> DEq K H n x y
def KC (K : Frag) (r : Bool) : R2 := fun x y H Q => ∃ a b, x = .ref a /\ y = .ref b /\ DSq K H a b /\ Q (.bl r) H
theorem JG {K : Frag} (hK : X.K = K) (hu : X.A.units + 64 < cLine) : OpR X (compareOp .Eq) (KC K true) := by
 subst hK
 intro pins s σ H x y v u Q I rx ry h
 obtain ⟨a, b, rfl, rfl, ⟨n, xs, ys, hn, hl, hs, hd⟩, q⟩ := h
 cases rx; cases ry
 have fin : EP X pins σ Q (.bool true) s := ⟨.bl true, H, I, rfl, q⟩
 rcases hs with ⟨ha, hb⟩ | ⟨ha, hb⟩
 ·obtain ⟨us, r1, p1, _⟩ := I.tuple ha
  obtain ⟨ws, r2, p2, _⟩ := I.tuple hb
  have l1 := r1.length
  have l2 := r2.length
  refine SeqAt.eq_tupleAt (e := fun _ => true) (show s.heap.IsTuple a us.toArray from p1) (show s.heap.IsTuple b ws.toArray from p2) Z1 (fun j h1 h2 => ?_) ?_
  ·have h1' : j < us.length := by simpa using h1
   have h2' : j < ws.length := by simpa using h2
   obtain ⟨x, ex, rx⟩ := r1.at h1'
   obtain ⟨y, ey, ry⟩ := r2.at h2'
   exact DEq.at I (hd j x y ex ey) (A := X.A.in1) (show X.A.units + 1 + n < cLine by omega) (by simpa using rx) (by simpa using ry)
  ·rw [lV, show (us.toArray.size == ws.toArray.size) = true from by simp; omega]
   exact fin
 ·obtain ⟨us, r1, p1, _⟩ := I.list ha
  obtain ⟨ws, r2, p2, _⟩ := I.list hb
  have l1 := r1.length
  have l2 := r2.length
  refine SeqAt.eq_listAt (e := fun _ => true) p1.isList p2.isList (by simp; omega) Z1 (fun j h1 h2 => ?_) ?_
  ·have h1' : j < us.length := by simpa using h1
   have h2' : j < ws.length := by simpa using h2
   obtain ⟨x, ex, rx⟩ := r1.at h1'
   obtain ⟨y, ey, ry⟩ := r2.at h2'
   exact DEq.at I (hd j x y ex ey) (A := X.A.in1) (show X.A.units + 1 + n < cLine by omega) (by simpa using rx) (by simpa using ry)
  ·rw [lV]
   exact fin
theorem rA {K : Frag} (hK : X.K = K) (hu : X.A.units + 64 < cLine) : OpR X (compareOp .NotEq) (KC K false) := by
 subst hK
 intro pins s σ H x y v u Q I rx ry h
 obtain ⟨a, b, rfl, rfl, ⟨n, xs, ys, hn, hl, hs, hd⟩, q⟩ := h
 cases rx; cases ry
 have fin : EP X pins σ Q (.bool false) s := ⟨.bl false, H, I, rfl, q⟩
 rcases hs with ⟨ha, hb⟩ | ⟨ha, hb⟩
 ·obtain ⟨us, r1, p1, _⟩ := I.tuple ha
  obtain ⟨ws, r2, p2, _⟩ := I.tuple hb
  have l1 := r1.length
  have l2 := r2.length
  have := SeqAt.RcNeAt.tuples (A := X.A) (s := s) (e := fun _ => true) (show s.heap.IsTuple a us.toArray from p1) (show s.heap.IsTuple b ws.toArray from p2) Z1 fun j h1 h2 => by
   have h1' : j < us.length := by simpa using h1
   have h2' : j < ws.length := by simpa using h2
   obtain ⟨x, ex, rx⟩ := r1.at h1'
   obtain ⟨y, ey, ry⟩ := r2.at h2'
   exact DEq.at I (hd j x y ex ey) (A := X.A.in1) (show X.A.units + 1 + n < cLine by omega) (by simpa using rx) (by simpa using ry)
  rw [lV, show (us.toArray.size == ws.toArray.size) = true from by simp; omega] at this
  exact this X.prog X.w X.xe _ fin
 ·obtain ⟨us, r1, p1, _⟩ := I.list ha
  obtain ⟨ws, r2, p2, _⟩ := I.list hb
  have l1 := r1.length
  have l2 := r2.length
  have := SeqAt.RcNeAt.lists (A := X.A) (s := s) (e := fun _ => true) p1.isList p2.isList (by simp; omega) Z1 fun j h1 h2 => by
   have h1' : j < us.length := by simpa using h1
   have h2' : j < ws.length := by simpa using h2
   obtain ⟨x, ex, rx⟩ := r1.at h1'
   obtain ⟨y, ey, ry⟩ := r2.at h2'
   exact DEq.at I (hd j x y ex ey) (A := X.A.in1) (show X.A.units + 1 + n < cLine by omega) (by simpa using rx) (by simpa using ry)
  rw [lV] at this
  exact this X.prog X.w X.xe _ fin
end
section
variable {X : Cx} {K : Frag}
theorem dH {es : List Expr} {k : Nat} {t : TGs} {n : Nat} {pos : Pos} (hK : X.K = K) (hc : X.calm = true) (h : PGs X es t)
  (hn : (assignEach es X.env).length = n := by rfl) (hst : (assignEach es X.env).findIdx? (·.1) = none := by rfl) : PG X (.Tuple es k pos) (Ma K n t) := by subst hK; exact Jx hc h hn hst
end
section
variable {X : Cx} {K : Frag} {tg : Expr}
end
section
variable {X : Cx} {K : Frag}
theorem yO (hc : X.calm = true) : jg X (.builtin "any") (Od X.K fun bs => bs.any id) := by
 intro pins s σ H xs us Q I r h
 obtain ⟨p, bs, rfl, hq, q⟩ := h
 obtain ⟨u, rfl, rx⟩ := vals1 r
 cases (show u = Value.ref p from rx)
 obtain ⟨its, rv, pl, hz⟩ := I.list hq
 have hlen := rv.length
 rw [length_map] at hlen
 have hne : p ≠ s.heap.objs.size := by
  obtain ⟨o, e, _⟩ := pl.isList
  exact ne_of_lt (Heap.lt_size e)
 refine call_any_walk (wpAny_pyIter_list pl.isList ?_)
 refine ⟨s.heap.objs.size, _, _, _, _, _, fun i => bs.getD i false, rfl, Walks.list (show X.A.in1.handled = none from I.ok.hd hc) s.heap.objs.size p hne its.toArray, ⟨⟨_, Heap.get?_push_size _ rfl, rfl, rfl⟩, ?_⟩, fun i v s' Q' E' hP hQ => ?_, fun h' tk kk => ?_⟩
 ·exact pl.isList.at fun o e => Heap.get?_push_of_some _ e
 ·have e := Jz rv (by simpa using hP)
  subst e
  exact wpAny_truthy_bool hQ
 ·have e : (List.range its.toArray.size).any (fun i => bs.getD i false) = bs.any id := by rw [size_toArray, <- hlen]; exact range_any bs
  rw [e]
  refine ⟨.bl _, H, I.kept fun b o e => ?_, rfl, q⟩
  exact kk b o (fun z => absurd (Heap.lt_size e) (by rw [mem_singleton.mp z]; exact lt_irrefl _)) (Heap.get?_push_of_some _ e)
end
theorem Aa {K : Frag} {a : Addr} {xs : List V} {tf : TT} {te : TE} {τ0 : St} {H : Hp} {Fin : List V -> Hp -> Prop} (p : V -> Bool) (hn : xs.length <= sizeLine) (hl : SqL K H a xs)
  (htf : ∀ x H' (Q : Bool -> Hp -> Prop), x ∈ xs -> az H H' -> (∀ H'', az H' H'' -> Q (p x) H'') -> tf (τ0.set 0 (some x)) H' Q)
  (hte : ∀ x H' (Q : VK), x ∈ xs -> az H H' -> (∀ H'', az H' H'' -> Q x H'') -> te (τ0.set 0 (some x)) H' Q)
  (hfin : ∀ H', az H H' -> Fin (xs.filter p) H') : ph (iT 0) tf te (Itl K a) τ0 H Fin := by
 refine ⟨fun i m τ ys H' => m = xs.length - i /\ i <= xs.length /\ ys = (xs.take i).filter p /\ az H H' /\ ∃ v, τ = τ0.set 0 v \/ τ = τ0, ⟨xs.length, rfl, zero_le _, rfl, az.refl _, none, .inr rfl⟩, ?_⟩
 rintro i m τ ys H' ⟨rfl, hi, rfl, sm, v, hτ⟩
 by_cases hlt : i < xs.length
 ·refine .inr ⟨⟨xs, xs[i], sm.seq hl, by simp [hlt]⟩, fun x H'' y => ?_⟩
  obtain ⟨e, y⟩ := y
  subst e
  have hx := y xs (sm.seq hl)
  have e2 : τ.set 0 (some x) = τ0.set 0 (some x) := by
   rcases hτ with rfl | rfl
   ·rw [set_set]
   ·rfl
  unfold iT
  rw [e2]
  have e3 : (xs.take (i + 1)).filter p = (xs.take i).filter p ++ (if p x = true then [x] else []) := by
   rw [List.take_add_one, hx, List.filter_append]
   congr 1
   show [x].filter p = _
   rw [List.filter_cons]
   rfl
  refine htf x H'' _ (mem_of_getElem? hx) sm fun H4 s4 => ?_
  cases hp : p x with
  | true =>
   rw [if_pos rfl]
   refine hte x H4 _ (mem_of_getElem? hx) (sm.trans s4) fun H5 s5 => ?_
   refine ⟨?_, xs.length - (i + 1), Z1, rfl, hlt, ?_, sm.trans (s4.trans s5), _, .inl rfl⟩
   ·have := length_filter_le p (xs.take i)
    rw [length_take] at this
    omega
   ·rw [e3, hp]; rfl
  | false =>
   rw [if_neg Z0]
   refine ⟨xs.length - (i + 1), Z1, rfl, hlt, ?_, sm.trans s4, _, .inl rfl⟩
   rw [e3, hp]; simp
 ·have e : i = xs.length := by omega
  subst e
  exact .inl ⟨⟨xs, sm.seq hl, le_refl _⟩, by have := hfin H' sm; rw [take_length]; exact this⟩
end L2
namespace Mine
open PySem PySem.Spec PyProof.Rows L2 PySem.Builtin PySem.Builtin.Str
inductive Thg where
 | num (m : Nat)
 | nms (c : Bool) (ys : List Str)
structure Trm where
 sg : Int
 th : Thg
def kindOf : Thg -> Str
 | .num _ => "number"
 | .nms c _ => if c = true then "call" else "path"
def wordOf : Thg -> Str
 | .num m => rR m
 | .nms c ys => if c = true then dotted ys ++ brk else dotted ys
def sgw (s : Int) : Str := if s = 1 then "+" else "-"
def wordsOf : List Trm -> List Str
 | [] => []
 | t :: r => wordOf t.th :: (r.map fun t => [sgw t.sg, wordOf t.th]).flatten
def textOf (ts : List Trm) : Str := Str.join ⟨#[32]⟩ (wordsOf ts)
structure vG (ys : List Str) : Prop where
 lo : ys ≠ []
 hi : ys.length <= 4
 nm : ∀ y ∈ ys, eZ y
def Ax : Thg -> Prop
 | .num m => m < 10 ^ 20
 | .nms _ ys => vG ys
structure zm (t : Trm) : Prop where
 sg : t.sg = 1 \/ t.sg = -1
 th : Ax t.th
structure lL (ts : List Trm) : Prop where
 lo : ts ≠ []
 hi : ts.length <= 6
 ok : ∀ t ∈ ts, zm t
 hd : ∀ t, ts.head? = some t -> t.sg = 1
theorem BK : brk.length = 2 := by decide +kernel
theorem vG.len {ys : List Str} (h : vG ys) : (dotted ys).length <= 36 := by
 have h1 := zL ys
 have h2 : (ys.map (·.length)).sum <= ys.length * 8 := tO fun y hy => (h.nm y hy).hi
 have := h.hi
 omega
theorem Ga {th : Thg} (h : Ax th) : (wordOf th).length <= 38 := by
 cases th with
 | num m => exact le_trans (G5 h).2.1 Z0
 | nms c ys =>
  have := vG.len h
  cases c with
  | true => show (dotted ys ++ brk).length <= 38; rw [wD, BK]; omega
  | false => show (dotted ys).length <= 38; omega
theorem Be : (("+" : Str)).cps.toList = [43] := by decide +kernel
theorem yM : (("-" : Str)).cps.toList = [45] := by decide +kernel
theorem Dy (s : Int) : (sgw s).cps.toList = [43] \/ (sgw s).cps.toList = [45] := by
 unfold sgw; split
 ·exact .inl Be
 ·exact .inr yM
theorem Hz (s : Int) : (sgw s).length = 1 := by
 rw [f9]; rcases Dy s with e | e <;> rw [e] <;> rfl
theorem yD {ts : List Trm} {x : Str} (h : x ∈ wordsOf ts) : (∃ t ∈ ts, x = wordOf t.th) \/ ∃ t ∈ ts, x = sgw t.sg := by
 cases ts with
 | nil => simp [wordsOf] at h
 | cons t r =>
  rcases mem_cons.mp h with h | h
  ·exact .inl ⟨t, mem_cons_self, h⟩
  ·obtain ⟨l, hl, hx⟩ := List.mem_flatten.mp h
   obtain ⟨u, hu, rfl⟩ := mem_map.mp hl
   simp only [mem_cons, not_mem_nil, or_false] at hx
   rcases hx with hx | hx
   ·exact .inr ⟨u, mem_cons_of_mem _ hu, hx⟩
   ·exact .inl ⟨u, mem_cons_of_mem _ hu, hx⟩
theorem blank_eq : ((" " : Str)) = ⟨#[32]⟩ := by decide +kernel
theorem Ec (r : List Trm) : ((r.map fun t => [sgw t.sg, wordOf t.th]).flatten).length = 2 * r.length := by
 induction r with
 | nil => rfl
 | cons t r ih => rw [map_cons, List.flatten_cons, length_append, ih]; simp; omega
theorem rG {ts : List Trm} (h : ts ≠ []) : (wordsOf ts).length = 2 * ts.length - 1 := by
 cases ts with
 | nil => exact absurd rfl h
 | cons t r => show (_ :: _).length = _; rw [length_cons, Ec, length_cons]; omega
theorem wA {ts : List Trm} (t : Trm) (h : ts ≠ []) : wordsOf (ts ++ [t]) = wordsOf ts ++ [sgw t.sg, wordOf t.th] := by
 cases ts with
 | nil => exact absurd rfl h
 | cons u r =>
  show wordOf u.th :: ((r ++ [t]).map fun t => [sgw t.sg, wordOf t.th]).flatten = wordOf u.th :: (r.map fun t => [sgw t.sg, wordOf t.th]).flatten ++ [sgw t.sg, wordOf t.th]
  rw [map_append, List.flatten_append]
  simp
end Mine
namespace L2
open PySem PySem.Spec PyProof.Rows
theorem lH {lo : Int} {n : Nat} {te : TE} {τ0 : St} {H : Hp} {Fin : List V -> Hp -> Prop} (R : Nat -> V -> Hp -> Prop) (hm : ∀ i v H' H'', R i v H' -> az H' H'' -> R i v H'') (hn : n <= sizeLine)
  (hte : ∀ (i : Nat) H' (Q : VK), i < n -> az H H' -> (∀ v H'', az H' H'' -> R i v H'' -> Q v H'') -> te (τ0.set 0 (some (.int (lo + i)))) H' Q)
  (hfin : ∀ ys H', az H H' -> ys.length = n -> (∀ (i : Nat) v, ys[i]? = some v -> R i v H') -> Fin ys H') : ph (iT 0) CK te (Itr lo n) τ0 H Fin := by
 refine ⟨fun i m τ ys H' => m = n - i /\ i <= n /\ ys.length = i /\ (∀ (j : Nat) v, ys[j]? = some v -> R j v H') /\ az H H' /\ ∃ v, τ = τ0.set 0 v \/ τ = τ0, ⟨n, rfl, zero_le _, rfl, fun j v h => by simp at h, az.refl _, none, .inr rfl⟩, ?_⟩
 rintro i m τ ys H' ⟨rfl, hi, hl, hr, sm, v, hτ⟩
 by_cases hlt : i < n
 ·refine .inr ⟨hlt, fun x H'' y => ?_⟩
  obtain ⟨e, y⟩ := y
  subst e y
  have e2 : τ.set 0 (some (V.int (lo + i))) = τ0.set 0 (some (V.int (lo + i))) := by
   rcases hτ with rfl | rfl
   ·rw [set_set]
   ·rfl
  unfold iT CK
  rw [e2]
  dsimp only
  rw [if_pos rfl]
  refine hte i H'' _ hlt sm fun v H4 s4 hv => ?_
  refine ⟨Z1, n - (i + 1), Z1, rfl, hlt, by rw [length_append, hl]; rfl, fun j u hj => ?_, sm.trans s4, _, .inl rfl⟩
  by_cases hji : j < ys.length
  ·rw [getElem?_append_left hji] at hj
   exact hm _ _ _ _ (hr j u hj) s4
  ·rw [getElem?_append_right Z1] at hj
   have hj0 : j - ys.length = 0 := by
    cases hh : j - ys.length with
    | zero => rfl
    | succ k => rw [hh] at hj; simp at hj
   rw [hj0] at hj
   have : j = i := by omega
   subst this
   have : v = u := by simpa using hj
   subst this
   exact hv
 ·have e : i = n := by omega
  subst e
  exact .inl ⟨le_refl _, hfin ys H' sm hl hr⟩
theorem jM {K : Frag} {a : Addr} {xs : List V} {te : TE} {τ0 : St} {H : Hp} {Fin : List V -> Hp -> Prop} (f : Nat -> V) (hn : xs.length <= sizeLine) (hl : SqL K H a xs)
  (hte : ∀ (i : Nat) x H' (Q : VK), xs[i]? = some x -> az H H' -> (∀ H'', az H' H'' -> Q (f i) H'') -> te (τ0.set 0 (some x)) H' Q)
  (hfin : ∀ H', az H H' -> Fin ((List.range xs.length).map f) H') : ph (iT 0) CK te (Itl K a) τ0 H Fin := by
 refine ⟨fun i m τ ys H' => m = xs.length - i /\ i <= xs.length /\ ys = (List.range i).map f /\ az H H' /\ ∃ v, τ = τ0.set 0 v \/ τ = τ0, ⟨xs.length, rfl, zero_le _, rfl, az.refl _, none, .inr rfl⟩, ?_⟩
 rintro i m τ ys H' ⟨rfl, hi, rfl, sm, v, hτ⟩
 by_cases hlt : i < xs.length
 ·refine .inr ⟨⟨xs, xs[i], sm.seq hl, by simp [hlt]⟩, fun x H'' y => ?_⟩
  obtain ⟨e, y⟩ := y
  subst e
  have hx := y xs (sm.seq hl)
  have e2 : τ.set 0 (some x) = τ0.set 0 (some x) := by
   rcases hτ with rfl | rfl
   ·rw [set_set]
   ·rfl
  unfold iT CK
  rw [e2]
  dsimp only
  rw [if_pos rfl]
  refine hte i x H'' _ hx sm fun H4 s4 => ?_
  exact ⟨by rw [length_map, length_range]; omega, xs.length - (i + 1), Z1, rfl, hlt, by rw [range_succ, map_append]; rfl, sm.trans s4, _, .inl rfl⟩
 ·have e : i = xs.length := by omega
  subst e
  exact .inl ⟨⟨xs, sm.seq hl, le_refl _⟩, hfin H' sm⟩
end L2
namespace Mine
open PySem PySem.Spec PyProof.Rows L2 PySem.Builtin PySem.Builtin.Str
def GF (H : Hp) (x : V) : Thg -> Prop
 | .num m => x = .int ((m : Nat) : Int)
 | .nms _ ys => ∃ q, x = .ref q /\ H q = some (.tup (ys.map V.str))
def qM (H : Hp) (v : V) (t : Trm) : Prop := ∃ p x, v = .ref p /\ H p = some (.tup [.int t.sg, .str (kindOf t.th), x]) /\ GF H x t.th
def fO (H : Hp) (l : Addr) (ts : List Trm) : Prop := ∃ xs, H l = some (.lst xs) /\ xs.length = ts.length /\ ∀ (i : Nat) x, xs[i]? = some x -> ∃ t, ts[i]? = some t /\ qM H x t
theorem GF.same {H H' : Hp} {x : V} {th : Thg} (h : GF H x th) (s : az H H') : GF H' x th := by
 cases th with
 | num m => exact h
 | nms c ys => obtain ⟨q, e, hq⟩ := h; exact ⟨q, e, s _ _ hq⟩
theorem qM.same {H H' : Hp} {v : V} {t : Trm} (h : qM H v t) (s : az H H') : qM H' v t := by
 obtain ⟨p, x, e, hp, hx⟩ := h
 exact ⟨p, x, e, s _ _ hp, hx.same s⟩
theorem fO.same {H H' : Hp} {l : Addr} {ts : List Trm} (h : fO H l ts) (s : az H H') : fO H' l ts := by
 obtain ⟨xs, hl, hn, hx⟩ := h
 refine ⟨xs, s _ _ hl, hn, fun i x e => ?_⟩
 obtain ⟨t, ht, tm⟩ := hx i x e
 exact ⟨t, ht, tm.same s⟩
theorem rO {α β : Type} (P : Nat -> α -> β -> Prop) : ∀ (ys : List α) (k : Nat), (∀ (i : Nat) v, ys[i]? = some v -> ∃ t, P (k + i) v t) -> ∃ ts : List β, ts.length = ys.length /\ ∀ (i : Nat) v, ys[i]? = some v -> ∃ t, ts[i]? = some t /\ P (k + i) v t
 | [], k, _ => ⟨[], rfl, fun i v h => by simp at h⟩
 | y :: ys, k, h => by
  obtain ⟨t0, h0⟩ := h 0 y rfl
  obtain ⟨ts, hl, ht⟩ := rO P ys (k + 1) fun i v e => by
   have := h (i + 1) v (by simpa using e)
   rwa [show k + (i + 1) = k + 1 + i from by omega] at this
  refine ⟨t0 :: ts, by simp [hl], fun i v e => ?_⟩
  cases i with
  | zero => cases e; exact ⟨t0, rfl, h0⟩
  | succ i =>
   obtain ⟨t, e2, p⟩ := ht i v (by simpa using e)
   refine ⟨t, by simpa using e2, ?_⟩
   rwa [show k + (i + 1) = k + 1 + i from by omega]
theorem log2_small {m : Nat} (h : m < 10 ^ 20) : m.log2 < 1920 := by
 by_cases h0 : m = 0
 ·subst h0; decide
 ·exact lt_trans ((Nat.log2_lt h0).mpr (lt_trans h (by decide : 10 ^ 20 < 2 ^ 70))) Z0
end Mine
namespace L2
open PySem PySem.Spec PyProof.Rows PySem.W
section
variable {X : Cx} {x : Str} {pos : Pos}
theorem Gz {y : Addr} (h : X.mg x = some (.ref y)) (hg : Gl X x := by rfl) (hd : (x == ("__debug__" : Str)) = false := by decide) : PE X (.Name x pos) (tC (.ref y)) := BL hg h rfl hd
def Ey (K : Frag) : List V -> Hp -> VK -> Prop := fun xs H Q => ∃ x t c b, xs = [x, .ref c] /\ pF K H x t /\ kitOne K t (.ref c) = some b /\ Q (.bl b) H
theorem jH : jg X (.builtin "isinstance") (Ey X.K) := by
 intro pins s σ H xs us Q I r h
 obtain ⟨x, t, c, b, rfl, ty, e, q⟩ := h
 obtain ⟨u, u2, rfl, rx, ry⟩ := vals2 r
 cases (show u2 = Value.ref c from ry)
 exact vJ I rx ty e fun tk => ⟨.bl b, H, I.tok tk, rfl, q⟩
end
structure RCl (K : Frag) (C : Addr) : Prop where
 cl : Cls K C
 ha : findIn K (.ref C) "__class__" = some (some (.builtin "object.__class__"))
 hn : specialIn K (.builtin "object.__class__") "__get__" = some (some (.builtin "getset_descriptor.__get__"))
 htk : takesIn K (.builtin "object.__class__") = some true
 hm : mroIn K C (.type "object") = some true
theorem RCl.ty {K : Frag} {C a dx : Addr} {H : Hp} {fs : List (Str × V)} (c : RCl K C) (e : H a = some (.ins C dx fs)) : pF K H (.ref a) (.ref C) := .ins e c.cl c.ha c.hn c.htk c.hm
structure MkN (K : Frag) (C : Addr) : Prop where
 makes : makesIn K C = true
 init : findIn K (.ref C) "__init__" = some (some (.builtin "object.__init__"))
 kp : keepIn K (.ref C) = true
section
variable {X : Cx} {C : Addr} {x : Str} {p pos : Pos}
end
section
variable {X : Cx} {C f : Addr} {k : Nat} {fd : FuncData} {ps : List Str} {sp : Sp} {x : Str} {p pos : Pos} {e : Expr} {es : List Expr} {t : TA}
theorem rJ (M : Mk X.K C f) (b : Binds X.K fd ps []) (G : aG X.prog X.w X.K X.mg X.base CX0 k f fd ps sp) (hr : aR (k + 1) X.A) (hm : X.mg x = some (.ref C)) (ha : PA X (e :: es) t) (hg : Gl X x := by rfl)
  (hdb : (x == ("__debug__" : Str)) = false := by decide) (he : starEach (e :: es) X.env = (false, eval e X.env) :: starEach es X.env := by rfl) (hpl : (backTo pos (starEach es X.env)).any (·.1) = false := by rfl) :
  PE X (.Call (.Name x p) (e :: es) [] pos) (Ji C sp [] E0 t) := G4 M G hr hg hm b .nil bG ha hdb he hpl
end
def VM (P : Program) (w : World) (K : Frag) (mg : MG) (base : Heap) (k : Nat) (C : Addr) (m : Str) (sp : Sp) : Prop := ∃ f fd ps, Meth K C m f /\ aG P w K mg base CX0 k f fd ps sp /\ Binds K fd ps []
def MV (P : Program) (w : World) (K : Frag) (mg : MG) (base : Heap) (k : Nat) (m : Str) (x : V) (H : Hp) (Q : VK) : Prop :=
 ∃ a C dx fs sp, x = .ref a /\ H a = some (.ins C dx fs) /\ fs.lookup m = none /\ Cls K C /\ VM P w K mg base k C m sp /\ sp [x] H Q E0
def JF (P : Program) (w : World) (K : Frag) (mg : MG) (base : Heap) (k : Nat) (m : Str) (ta : TE) : TE := fun σ H Q => ta σ H fun x H1 => MV P w K mg base k m x H1 Q
section
variable {X : Cx} {P : Program} {w : World} {K : Frag} {mg : MG} {base : Heap} {k : Nat} {m : Str} {o : Expr} {ta : TE} {pos apos : Pos}
theorem tZ {pl : Sem Bool} (h1 : X.prog = P) (h2 : X.w = w) (h3 : X.K = K) (h4 : X.mg = mg) (h5 : X.base = base) (hr : aR k X.A) (he : PE X o ta)
  (ht : eval (.Call (.Attribute o m apos) [] [] pos) X.env = (do
   let ov <- eval o X.env
   standAt apos.atName
   let (f, first) <- holding [ov] (getMethod ov m pl)
   callWith pos f first (backTo pos (starEach [] X.env)) (backToKw pos (keywordEach [] X.env))) := by rfl) :
  PE X (.Call (.Attribute o m apos) [] [] pos) (JF P w K mg base k m ta) := by
 subst h1 h2 h3 h4 h5
 intro pins s σ H Q I h
 refine methodCall_KW (pl := pl) (thn (he pins s σ H _ I h) fun u s1 hz => ?_) ht
 obtain ⟨x, H1, I1, rx, a, C, dx, fs, sp, ex, ea, l, c, ⟨f, fd, ps, hm, F, hb⟩, q⟩ := hz
 subst ex
 obtain rfl : u = Value.ref a := rx
 refine pK I1 ea c hm l ?_
 exact PySem.W.callWith_K0 (first := [.ref a]) I1.kIn hm.kp (xH (us := [.ref a]) (vs := [.ref a]) (dvs := []) (ds := []) F hr hb .nil bG I1 (.cons rfl .nil) q)
end
section
variable {X : Cx} {o value : Expr} {f : Str} {pos pos' : Pos} {ta tv : TE}
theorem dD (ha : PE X o ta) (hv : PE X value tv) (hs : swapsWith value (some (.Attribute o f pos')) pos.line X.env = pure false := by rfl) : QS X (.Assign [.Attribute o f pos'] value pos) (KY X.K ta tv f) := ⟨Ky ha hv hs⟩
end
structure MAt (K : Frag) (m q : Str) (st : Stmt) (ps : List Str) (f : Addr) (fd : FuncData) : Prop where
 F : Fun K m q st f fd
 b : Binds K fd ps []
theorem rdF {K : Frag} {H : Hp} {a C dx : Addr} {fs : List (Str × V)} {v : V} {f : Str} {q : V -> Prop} (ha : H a = some (.ins C dx fs)) (c : Cls K C) (n : bZ K C f) (l : fs.lookup f = some v) (h : q v) :
  ∃ a' C' dx' fs' v', V.ref a = .ref a' /\ H a' = some (.ins C' dx' fs') /\ Cls K C' /\ bZ K C' f /\ fs'.lookup f = some v' /\ q v' := ⟨a, C, dx, fs, v, rfl, ha, c, n, l, h⟩
theorem qW {p : Nat -> Prop} (h0 : p 0) (h1 : p 1) (h2 : p 2) (h3 : p 3) (h4 : p 4) (h5 : p 5) (h6 : p 6) (i : Nat) (h : i <= 6) : p i := by
 cases i with
 | zero => exact h0
 | succ i => cases i with
  | zero => exact h1
  | succ i => cases i with
   | zero => exact h2
   | succ i => cases i with
    | zero => exact h3
    | succ i => cases i with
     | zero => exact h4
     | succ i => cases i with
      | zero => exact h5
      | succ i => cases i with
       | zero => exact h6
       | succ i => exact absurd h Z1
theorem jb {H : Hp} {p b : Addr} {o : HO} (h : upd H p o b = none) : H b = none /\ b ≠ p := by
 unfold upd at h
 split at h
 ·cases h
 ·exact ⟨h, ‹_›⟩
theorem lkP {f : Str} {y : V} {fs : List (Str × V)} : (aX f y fs).lookup f = some y := by rw [jP, if_pos rfl]
theorem lkN {f g : Str} {y : V} {fs : List (Str × V)} (h : ¬ g = f) : (aX f y fs).lookup g = fs.lookup g := by rw [jP, if_neg h]
theorem gq {f : Str} {y : V} {fs : List (Str × V)} {n : Nat} (h : fs.length < n) : (aX f y fs).length < n + 1 := by have := nM f y fs; omega
def SameBut (x : Addr) (H H' : Hp) : Prop := ∀ b o, H b = some o -> b ≠ x -> H' b = some o
theorem sb3 {H : Hp} {x l : Addr} {o1 o2 o3 : HO} (hl : H l = none) : SameBut x H (upd (upd (upd H x o1) l o2) x o3) := fun b o e hb => by
 rw [aA hb, aA (ak e hl), aA hb]; exact e
theorem sb2 {H : Hp} {x l : Addr} {o1 o2 : HO} (hl : H l = none) : SameBut x H (upd (upd H l o1) x o2) := fun b o e hb => by
 rw [aA hb, aA (ak e hl)]; exact e
theorem aQ {K : Frag} {C D : Addr} {b : Bool} (m : mroIn K C (.ref D) = some b) (sD : mroIn K D (.ref D) = some true) (o : mroIn K D (.type "object") = some true) (ty : typeIn K (.ref D) = some (.type "type")) : kitOne K (.ref C) (.ref D) = some b := by
 unfold kitOne
 by_cases e : (Value.ref C == Value.ref D) = true
 ·rw [if_pos e]
  have e' : C = D := by cases eq_of_beq e; rfl
  subst e'
  rw [m] at sD; exact sD.symm
 ·rw [if_neg e]
  cases h : clsIn K D with
  | none => unfold mroIn at o; rw [h] at o; cases o
  | some cd =>
   show (if ((clsIn K D).isSome && typeIn K (.ref D) == some (.type "type")) = true then mroIn K C (.ref D) else none) = _
   rw [h, ty, if_pos Z2, m]
theorem len0 {α : Type} {us : List α} (h : us.length = 0) : us = [] := List.length_eq_zero_iff.mp h
theorem Cj {α : Type} {us : List α} {n : Nat} (h : us.length = n + 1) : ∃ a r, us = a :: r /\ r.length = n := by
 cases us with
 | nil => cases h
 | cons a r => exact ⟨a, r, rfl, Nat.succ.inj h⟩
theorem Ld {α : Type} {us : List α} (h : us.length = 1) : ∃ a, us = [a] := by
 obtain ⟨a, r, rfl, k⟩ := Cj h
 exact ⟨a, by rw [len0 k]⟩
theorem Lx {α : Type} {us : List α} (h : us.length = 2) : ∃ a b, us = [a, b] := by
 obtain ⟨a, r, rfl, k⟩ := Cj h
 obtain ⟨b, rfl⟩ := Ld k
 exact ⟨a, b, rfl⟩
theorem Ly {α : Type} {us : List α} (h : us.length = 3) : ∃ a b c, us = [a, b, c] := by
 obtain ⟨a, r, rfl, k⟩ := Cj h
 obtain ⟨b, c, rfl⟩ := Lx k
 exact ⟨a, b, c, rfl⟩
theorem Nr {α : Type} {us : List α} (h : us.length = 4) : ∃ a b c d, us = [a, b, c, d] := by
 obtain ⟨a, r, rfl, k⟩ := Cj h
 obtain ⟨b, c, d, rfl⟩ := Ly k
 exact ⟨a, b, c, d, rfl⟩
end L2
namespace Mine
open PySem PySem.Spec PyProof.Rows L2 PySem.Builtin PySem.Builtin.Str
structure bF where
 so : Nat
 nm : Str
 ad : Str
 wd : Str
 ts : List Trm
structure oY (ys : List Str) : Prop where
 lo : ys ≠ []
 hi : ys.length <= 3
 nm : ∀ y ∈ ys, eZ y
structure GoodR (r : bF) : Prop where
 so : r.so <= 5
 nm : r.so < 5 -> eZ r.nm
 no : r.so = 5 -> r.nm = ""
 ad : ∃ ys, oY ys /\ r.ad = dotted ys
 wd : eZ r.wd
 ts : lL r.ts
 dd : r.so = 1 -> ∀ t ∈ r.ts, ∀ ys, t.th ≠ .nms true ys
theorem oY.len {ys : List Str} (h : oY ys) : (dotted ys).length <= 36 := vG.len ⟨h.lo, le_trans h.hi Z0, h.nm⟩
theorem GoodR.nl {r : bF} (h : GoodR r) : r.nm.length <= 8 := by
 rcases lt_or_ge r.so 5 with k | k
 ·exact (h.nm k).hi
 ·rw [h.no (by have := h.so; omega)]; decide
theorem abS {a b : Str} {m n : Nat} (ha : a.length <= m) (hb : b.length <= n) (h : m + n <= 1000 := by decide) : a.length + b.length <= sizeLine := le_trans (Nat.add_le_add ha hb) (le_trans h yK)
theorem alS {a b : Str} {m n : Nat} (ha : a.length <= m) (hb : b.length <= n) : (a ++ b).length <= m + n := by rw [wD]; exact Nat.add_le_add ha hb
structure Hs (H : Hp) (fs : List (Str × V)) (l : Addr) (r : bF) : Prop where
 nm : r.so < 5 -> fs.lookup ("name" : Str) = some (.str r.nm)
 tm : r.so = 0 \/ r.so = 1 \/ r.so = 5 -> fs.lookup ("terms" : Str) = some (.ref l) /\ fO H l r.ts
 ad : r.so = 2 \/ r.so = 3 \/ r.so = 4 -> fs.lookup ("address" : Str) = some (.str r.ad)
 wd : r.so = 4 -> fs.lookup ("word" : Str) = some (.str r.wd)
 nb : fs.lookup ("binds" : Str) = none
 na : fs.lookup ("asked" : Str) = none
 ns : fs.lookup ("said" : Str) = none
def gY (C : Nat -> Addr) (H : Hp) (a l : Addr) (r : bF) : Prop := ∃ dx fs, H a = some (.ins (C r.so) dx fs) /\ Hs H fs l r
theorem Hs.same {H H' : Hp} {fs : List (Str × V)} {l : Addr} {r : bF} (h : Hs H fs l r) (s : az H H') : Hs H' fs l r :=
 ⟨h.nm, fun k => ⟨(h.tm k).1, (h.tm k).2.same s⟩, h.ad, h.wd, h.nb, h.na, h.ns⟩
theorem gY.same {C : Nat -> Addr} {H H' : Hp} {a l : Addr} {r : bF} (h : gY C H a l r) (s : az H H') : gY C H' a l r := by
 obtain ⟨dx, fs, e, f⟩ := h
 exact ⟨dx, fs, s _ _ e, f.same s⟩
theorem qM.but {H H' : Hp} {v : V} {t : Trm} {x C dx : Addr} {fs : List (Str × V)} (h : qM H v t) (hx : H x = some (.ins C dx fs)) (s : SameBut x H H') : qM H' v t := by
 obtain ⟨p, y, e, hp, hy⟩ := h
 refine ⟨p, y, e, s _ _ hp (aF hp hx Z6), ?_⟩
 cases hth : t.th with
 | num m => rw [hth] at hy; exact hy
 | nms c zs =>
  rw [hth] at hy
  obtain ⟨q, e, hq⟩ := hy
  exact ⟨q, e, s _ _ hq (aF hq hx Z6)⟩
def Ds (i j : Nat) : Bool := decide (i = j) || decide (j = 6)
end Mine
namespace L2
open PySem PySem.Spec PyProof.Rows PySem.W
section
variable {X : Cx} {pos : Pos} {t : TS}
end
theorem FT (xs : List V) (k : Nat) : gU xs (some (k : Int)) none = xs.drop k := by
 unfold gU
 rw [HT.sIx_none, HT.sIx_nat]
 rw [List.take_of_length_le (by rw [length_drop]; exact le_refl _)]
 by_cases h : k <= xs.length
 ·rw [min_eq_left h]
 ·rw [Nat.min_eq_right Z1, List.drop_length, List.drop_eq_nil_of_le Z1]
end L2
namespace Mine
open PySem PySem.Spec PyProof.Rows L2 PySem.Builtin PySem.Builtin.Str
end Mine
namespace En
open PySem PySem.Spec PyProof.Rows
section
variable {prog : Program} {w : World} {A : Around} {E : EV} {s : Shared}
theorem next_item {e j l : Addr} {i : Nat} {k : Int} {its : Array Value} {x old : Value} {Q : Option Value -> Shared -> Prop}
  (q1 : IsEnum s.heap e j k old) (q2 : s.heap.IsListIter j l i) (q3 : s.heap.IsList l its) (q4 : its[i]? = some x) (ne : e ≠ j)
  (kQ : ∀ h', IsEnumOut h' e j (k + 1) x s.heap.objs.size -> h'.IsListIter j l (i + 1) -> h'.get? s.heap.objs.size = some { cls := .type "tuple", data := .seq #[.int k s.toks, x] } ->
   (∀ b o, b ≠ e -> b ≠ j -> s.heap.get? b = some o -> h'.get? b = some o) -> Q (some (.ref s.heap.objs.size)) { s with heap := h', toks := s.toks + 1 }) :
  wpAny (model prog w) A (pyNext (.ref e)) Q E s := by
 have ty : s.TypeIs (.ref e) "enumerate" := ⟨_, q1, rfl⟩
 unfold pyNext
 refine wpAny_bind (wpAny_attempt (wpAny_callSpecial?_slot (name := Str.ofString "__next__") ty F.slot_enumerate_next (wpAny_call_entry F.slot_enumerate_next ty F.entry_enumerate_next ?_ (F.args_enumerate_next_1 _))))
 obtain ⟨hp, g, d, tk, os⟩ := s
 show wpAny _ _ (field (.ref e) 2 >>= _) _ _ _
 refine wpAny_bind (wpAny_field q1 rfl (x := .ref j) rfl (wpAny_bind (wpAny_nextOf_list_item q2 q3 q4 fun h1 r1 z1 => ?_)))
 replace z1 : Heap.SameBut j hp h1 := z1
 have a1 : IsEnum h1 e j k old := (z1.2 e ne).trans q1
 show wpAny _ _ (field (.ref e) 3 >>= _) _ _ ⟨h1, g, d, tk, os⟩
 refine wpAny_bind (wpAny_field a1 rfl (x := rawInt k) rfl ?_)
 show wpAny _ _ (field (.ref e) 4 >>= _) _ _ ⟨h1, g, d, tk, os⟩
 refine wpAny_bind (wpAny_field a1 rfl (x := .none) rfl ?_)
 show wpAny _ _ (mkInt k >>= _) _ _ ⟨h1, g, d, tk, os⟩
 refine wpAny_bind (wpAny_mkInt ?_)
 show wpAny _ _ (setField (.ref e) 3 (rawInt (k + 1)) >>= _) _ _ ⟨h1, g, d, tk + 1, os⟩
 refine wpAny_bind (wpAny_setField_rec a1 Z2 fun h2 a2 z2 => ?_)
 replace z2 : Heap.SameBut e h1 h2 := z2
 replace a2 : IsEnum h2 e j (k + 1) old := a2
 show wpAny _ _ (setField (.ref e) 4 .none >>= _) _ _ ⟨h2, g, d, tk + 1, os⟩
 refine wpAny_bind (wpAny_setField_rec a2 Z2 fun h3 a3 z3 => ?_)
 replace z3 : Heap.SameBut e h2 h3 := z3
 replace a3 : IsEnum h3 e j (k + 1) old := a3
 show wpAny _ _ (newTuple [.int k tk, x] >>= _) _ _ ⟨h3, g, d, tk + 1, os⟩
 refine wpAny_bind (wpAny_newTuple ?_)
 have a4 : IsEnum (h3.push { cls := .type "tuple", data := .seq #[.int k tk, x] }) e j (k + 1) old := Heap.get?_push_of_some _ a3
 generalize hh : h3.push { cls := .type "tuple", data := .seq #[.int k tk, x] } = h4 at a4
 have sz : h3.objs.size = hp.objs.size := by rw [z3.1, z2.1, z1.1]
 have el : e < hp.objs.size := Heap.lt_size q1
 have t4 : h4.get? hp.objs.size = some { cls := .type "tuple", data := .seq #[.int k tk, x] } := by rw [<- hh, <- sz]; exact Heap.get?_push_size _ rfl
 have k4 : ∀ b o, b ≠ e -> b ≠ j -> hp.get? b = some o -> h4.get? b = some o := fun b o be bi hb => by
  rw [<- hh]; exact Heap.get?_push_of_some _ (z3.extBut b o be (z2.extBut b o be (z1.extBut b o bi hb)))
 have r4 : h4.IsListIter j l (i + 1) := by
  rw [<- hh]; obtain ⟨o, ho, r⟩ := (r1.extBut z2.extBut (Ne.symm ne)).extBut z3.extBut (Ne.symm ne); exact ⟨o, Heap.get?_push_of_some _ ho, r⟩
 show wpAny _ _ (Builtin.SmallTypes.ownedTupleIsFree (.ref e) >>= _) _ _ ⟨h4, g, d, tk + 1, os⟩
 rw [sz]
 clear hh a3 z3 a2 z2 a1 z1 r1 sz h3 h2 h1
 refine wpAny_bind ?_
 unfold Builtin.SmallTypes.ownedTupleIsFree
 refine wpAny_bind (wpAny_field a4 rfl (x := .none) rfl (wpAny_pure ?_))
 simp only [if_true]
 refine wpAny_bind (wpAny_rule (wpAny_bind (wpAny_field a4 rfl (x := old) rfl (wpAny_bind (wpAny_setField_rec a4 Z2 fun h5 a5 z5 => ?_)))))
 replace z5 : Heap.SameBut e h4 h5 := z5
 replace a5 : IsEnum h5 e j (k + 1) x := a5
 show wpAny _ _ (Builtin.SmallTypes.ownedTupleHandOut (.ref e) (.ref hp.objs.size) >>= _) _ _ ⟨h5, g, d, tk + 1, os⟩
 refine wpAny_bind ?_
 unfold Builtin.SmallTypes.ownedTupleHandOut
 refine wpAny_bind (wpAny_setField_rec a5 Z2 fun h6 a6 z6 => ?_)
 replace z6 : Heap.SameBut e h5 h6 := z6
 replace a6 : IsEnumOut h6 e j (k + 1) x hp.objs.size := a6
 refine wpAny_setField_rec a6 Z2 fun h7 a7 z7 => ?_
 replace z7 : Heap.SameBut e h6 h7 := z7
 replace a7 : IsEnumOut h7 e j (k + 1) x hp.objs.size := a7
 refine wpAny_bind (wpAny_letGo (wpAny_pure ⟨_, rfl, wpAny_pure (kQ h7 a7 ?_ ?_ ?_)⟩))
 ·exact ((r4.extBut z5.extBut (Ne.symm ne)).extBut z6.extBut (Ne.symm ne)).extBut z7.extBut (Ne.symm ne)
 ·exact z7.extBut _ _ (ne_of_gt el) (z6.extBut _ _ (ne_of_gt el) (z5.extBut _ _ (ne_of_gt el) t4))
 ·exact fun b o be bi hb => z7.extBut b o be (z6.extBut b o be (z5.extBut b o be (k4 b o be bi hb)))
theorem next_end {e j l : Addr} {i : Nat} {k : Int} {its : Array Value} {old : Value} {Q : Option Value -> Shared -> Prop} (hh : A.handled = none)
  (q1 : IsEnum s.heap e j k old) (q2 : s.heap.IsListIter j l i) (q3 : s.heap.IsList l its) (q4 : its[i]? = none)
  (kQ : ∀ h', Heap.ExtBut j s.heap h' -> Q none { s with heap := h' }) : wpAny (model prog w) A (pyNext (.ref e)) Q E s := by
 have ty : s.TypeIs (.ref e) "enumerate" := ⟨_, q1, rfl⟩
 unfold pyNext
 refine wpAny_bind (wpAny_attempt (wpAny_callSpecial?_slot (name := Str.ofString "__next__") ty F.slot_enumerate_next (wpAny_call_entry F.slot_enumerate_next ty F.entry_enumerate_next ?_ (F.args_enumerate_next_1 _))))
 show wpAny _ _ (field (.ref e) 2 >>= _) _ _ _
 refine wpAny_bind (wpAny_field q1 rfl (x := .ref j) rfl (wpAny_bind (wpAny_nextOf_list_end hh q2 q3 q4 fun h' x hx ho => ?_)))
 obtain ⟨o, ho, hc⟩ := ho
 exact wpAny_bind (wpAny_isInstance (T := "StopIteration") (b := true) ⟨o, ho, hc⟩ isSubtype_stop (wpAny_pure (kQ _ hx)))
end
end En
namespace L2
open PySem PySem.Spec PyProof.Rows
def Ite (K : Frag) (a : Addr) (k : Int) : It :=
 ⟨fun i H => ∃ xs x, SqL K H a xs /\ xs[i]? = some x, fun i H v H' => ∃ p x, v = .ref p /\ H p = none /\ (∀ xs, SqL K H a xs -> xs[i]? = some x) /\ H' = upd H p (.tup [.int (k + i), x]), fun i H => ∃ xs, SqL K H a xs /\ xs.length <= i⟩
theorem Dn {P : Program} {w : World} {K : Frag} {elts : List Expr} {x1 : Nat} {tpos : Pos} (a e j : Addr) (k : Int) (ne : e ≠ j) :
  Turn P w K (.Tuple elts x1 tpos) (Ite K a k) [e, j] e (fun i h => (∃ old, IsEnum h e j (k + i) old) /\ h.IsListIter j a i) where
 mem := .head _
 obj := fun i h st c hc => by
  obtain ⟨⟨old, hz⟩, h1⟩ := st
  cases hc with
  | head => exact ⟨_, hz, fun v z => by cases z⟩
  | tail _ hc => cases hc with
   | head => obtain ⟨o, e, _, d⟩ := h1; exact ⟨o, e, fun v z => by rw [d] at z; cases z⟩
   | tail _ hc => cases hc
 keep := fun i h h' st k => by
  obtain ⟨⟨old, hz⟩, h1⟩ := st
  exact ⟨⟨old, k e (.head _) _ hz⟩, h1.at fun o e => k j (.tail _ (.head _)) o e⟩
 item := by
  intro X hP hw hK hc i pins s σ H E I hf st hg
  subst hP hw hK
  obtain ⟨xs, x, hq, hx⟩ := hg
  obtain ⟨⟨old, hz⟩, h1⟩ := st
  obtain ⟨us, rv, p, hsz⟩ := I.list hq
  obtain ⟨u, hu, ru⟩ := rv.get hx
  have lt : ∀ {c o}, s.heap.get? c = some o -> c ≠ s.heap.objs.size := fun e => ne_of_lt (Heap.lt_size e)
  refine En.next_item hz h1 p.isList (x := u) (by simpa using hu) ne fun h' a1 a2 a3 hk => ?_
  refine ⟨_, rfl, wpAny_letOwnedTupleGo_enum a1 fun h'' hz' hs' => ?_⟩
  have hfr : H s.heap.objs.size = none := I.hok.fresh (le_refl _)
  have hT : h''.get? s.heap.objs.size = some { cls := .type "tuple", data := .seq #[.int (k + i) s.toks, u] } := (hs'.2 _ (Ne.symm (lt hz))).trans a3
  have kk : ∀ c o, c ≠ e -> c ≠ j -> s.heap.get? c = some o -> h''.get? c = some o := fun c o q1 q2 e' => (hs'.2 c q1).trans (hk c o q1 q2 e')
  have fe := hf e (.head _)
  have fj := hf j (.tail _ (.head _))
  have hch : ∀ c, c ∉ [e, j] -> c ≠ e /\ c ≠ j := fun c hc => ⟨fun z => hc (z ▸ .head _), fun z => hc (z ▸ .tail _ (.head _))⟩
  have trk : ∀ c o, H c = some o -> c ≠ e /\ c ≠ j := fun c o q => ⟨(fun z => by rw [z, fe.1] at q; cases q), (fun z => by rw [z, fj.1] at q; cases q)⟩
  have I1 : Inv X pins σ (upd H s.heap.objs.size (.tup [.int (k + i), x])) { s with heap := h'', toks := s.toks + 1 } := by
   refine I.step (g' := s.gens) (d' := s.drawn) (t' := s.toks + 1) (ch := [e, j]) (fun c hc => ?_) (fun c o _ _ hc e' _ => ?_) (fun c o _ _ hc e' _ => ?_) (fun c o hc e' n => ?_) (fun c o hc e' => ?_) (fun c q e' => ?_) (fun c o q e' => ?_) (fun c q e' => ?_) (fun m hm => ?_) (fun c o e' => ?_) I.bare
   ·cases hc with
    | head => exact ⟨fe.2.2.2.1, fe.2.1, fe.2.2.2.2.1, fe.2.2.2.2.2⟩
    | tail _ hc => cases hc with
     | head => exact ⟨fj.2.2.2.1, fj.2.1, fj.2.2.2.2.1, fj.2.2.2.2.2⟩
     | tail _ hc => cases hc
   ·exact kk c o (hch c hc).1 (hch c hc).2 e'
   ·exact ⟨o.slots, kk c o (hch c hc).1 (hch c hc).2 e'⟩
   ·rw [aA (lt e')]; exact n
   ·exact ⟨o, kk c o (hch c hc).1 (hch c hc).2 e'⟩
   ·rw [aA (ak e' hfr)]; exact e'
   ·rw [aA (ak e' hfr)]; exact e'
   ·exact ⟨#[], by rw [aA (ak e' hfr), e']; simp⟩
   ·obtain ⟨o, es, ep, ho, r⟩ := hm
    exact ⟨o, es, ep, kk _ o (Ne.symm fe.2.1) (Ne.symm fj.2.1) ho, r⟩
   ·by_cases hcT : c = s.heap.objs.size
    ·subst hcT
     rw [ao] at e'
     cases e'
     exact ⟨by show 2 <= sizeLine; decide, [.int (k + i) s.toks, u], .cons ⟨_, rfl⟩ (.cons ru .nil), ⟨_, hT, rfl, _, rfl⟩⟩
    ·rw [aA hcT] at e'
     obtain ⟨q1, q2⟩ := trk c o e'
     refine (I.hok c o e').stay (fun d w' hd q => ?_) (fun d q => ?_) fun d w' q => ?_
     ·have : d ≠ e /\ d ≠ j := by
       rcases hd with rfl | hd
       ·exact ⟨q1, q2⟩
       ·exact trk d _ hd
      exact kk d w' this.1 this.2 q
     ·rw [aA (ak q hfr)]; exact q
     ·rw [aA (ak q hfr)]; exact q
  refine ⟨.ref s.heap.objs.size, _, I1, rfl, ⟨s.heap.objs.size, x, rfl, hfr, fun zs hq' => by rw [I.list_inj hq' hq]; exact hx, rfl⟩, ?_, fun c hc => ?_⟩
  ·refine ⟨⟨u, ?_⟩, a2.at fun o q => (hs'.2 j (Ne.symm ne)).trans q⟩
   have := hz'
   rwa [show k + (i : Int) + 1 = k + ((i + 1 : Nat) : Int) from by omega] at this
  ·have hc0 := (hf c hc).1
   have hne : c ≠ s.heap.objs.size := by
    cases hc with
    | head => exact lt hz
    | tail _ hc => cases hc with
     | head => obtain ⟨_, q, _⟩ := h1; exact lt q
     | tail _ hc => cases hc
   rw [aA hne]; exact hc0
 done := by
  intro X hP hw hK hc i pins s σ H E I hf st hg
  subst hP hw hK
  obtain ⟨xs, hq, hend⟩ := hg
  obtain ⟨⟨old, hz⟩, h1⟩ := st
  obtain ⟨us, rv, p, hsz⟩ := I.list hq
  have l1 := rv.length
  refine En.next_end (I.ok.hd hc) hz h1 p.isList (by simp; omega) fun h' hk => ⟨rfl, ?_⟩
  have fj := hf j (.tail _ (.head _))
  exact I.turned (t' := s.toks) (fun b o hb q => hk b o hb q) fj.1 fj.2.1 fj.2.2.2.1 fj.2.2.2.2.1 fj.2.2.2.2.2
 self := fun A i s Q E st h => by
  obtain ⟨⟨old, hz⟩, _⟩ := st
  exact wpAny_pyIter_enum hz h
section
variable {X : Cx} {K : Frag}
def K3 (K : Frag) (k : Int) (ta : TA) : TI := fun σ H R => ta σ H fun vs H1 => ∃ a, vs = [.ref a] /\ (∃ xs, SqL K H1 a xs) /\ R (Ite K a k) H1
theorem wJ {a : Expr} {ta : TA} {p pos : Pos} {elts : List Expr} {x1 : Nat} {tpos : Pos} (hK : X.K = K) (hg : Gl X "enumerate") (hm : X.mg "enumerate" = none) (ha : PA X [a] ta) (hs : starEach [a] X.env = [(false, eval a X.env)] := by rfl) :
  PI X (.Tuple elts x1 tpos) (.Call (.Name "enumerate" p) [a] [] pos) (K3 K 0 ta) := by
 subst hK
 intro pins s σ H R I h
 refine Call_ (qQ I hg hm boot_enumerate (PyProof.Rows.callWith_type1 (thn (ha pos pins s σ H _ I h) fun us s1 ⟨vs, H1, I1, r1, q1⟩ => ?_) (by rw [hs]; rfl) rfl))
 obtain ⟨a1, e, ⟨xs, hx⟩, q⟩ := q1
 subst e
 obtain ⟨u, rfl, rx⟩ := vals1 r1
 cases rx
 obtain ⟨vs1, _, p1, _⟩ := I1.list hx
 refine call_enumerate_list p1.isList fun h' z1 z2 z3 zk => ?_
 refine wpAny_pyIter_enum z1 ?_
 have I2 : Inv X pins σ H1 { s1 with heap := h' } := I1.kept (t' := s1.toks) zk
 refine ⟨_, [s1.heap.objs.size + 1, s1.heap.objs.size], _, _, H1, rfl, I2, Dn a1 _ _ 0 (Nat.succ_ne_self _), ⟨⟨_, z1⟩, z2⟩, fun c hc => ?_, q⟩
 have hle : s1.heap.objs.size <= c := by
  cases hc with
  | head => exact Nat.le_succ _
  | tail _ hc => cases hc with
   | head => exact le_refl _
   | tail _ hc => cases hc
 exact I1.fpOk hle (I1.hok.fresh hle)
end
end L2
namespace En
open PySem PySem.Spec PyProof.Rows
open AutoSeq1 (wpAny_loadPart')
section
variable {prog : Program} {w : World} {A : Around} {E : EV} {s : Shared}
end
end En
namespace L2
open PySem PySem.Spec PyProof.Rows
section
variable {X : Cx} {K : Frag}
end
theorem ue {K : Frag} {a : Addr} {k : Int} {xs : List V} {g : TG} {tb : TS} {D : Ends} {σ : St} {H : Hp} (Pv : Nat -> St -> Hp -> Prop) (h0 : Pv 0 σ H) (hl : ∀ i σ H, i <= xs.length -> Pv i σ H -> SqL K H a xs)
  (hs : ∀ (i : Nat) x p σ H, xs[i]? = some x -> Pv i σ H -> H p = none -> g (.ref p) σ (upd H p (.tup [.int (k + i), x])) fun σ2 H2 => tb { D with nx := Pv (i + 1), ct := Pv (i + 1), bk := D.nx } σ2 H2) (hd : ∀ σ H, Pv xs.length σ H -> D.nx σ H) :
  ∃ W : Nat -> Nat -> St -> Hp -> Prop, (∃ m, W 0 m σ H) /\ ∀ i m σ H, W i m σ H ->
   ((Ite K a k).stop i H /\ D.nx σ H) \/ ((Ite K a k).go i H /\ ∃ N : St -> Hp -> Prop, (∀ σ' H', N σ' H' -> ∃ m', m' < m /\ W (i + 1) m' σ' H') /\ ∀ x H', (Ite K a k).yld i H x H' -> g x σ H' fun σ2 H2 => tb { D with nx := N, ct := N, bk := D.nx } σ2 H2) := by
 refine ⟨fun i m σ H => m = xs.length - i /\ i <= xs.length /\ Pv i σ H, ⟨xs.length, Z2, zero_le _, h0⟩, ?_⟩
 rintro i m σ H ⟨rfl, hi, p⟩
 have q := hl i σ H hi p
 by_cases hlt : i < xs.length
 ·refine .inr ⟨⟨xs, xs[i], q, by simp [hlt]⟩, Pv (i + 1), fun σ' H' p' => ⟨xs.length - (i + 1), Z1, rfl, hlt, p'⟩, fun x H' y => ?_⟩
  obtain ⟨p0, x0, rfl, hp, hx, rfl⟩ := y
  exact hs i x0 p0 σ _ (hx xs q) p hp
 ·have e : i = xs.length := by omega
  subst e
  exact .inl ⟨⟨xs, q, le_refl _⟩, hd σ H p⟩
theorem yt {K : Frag} {a : Addr} {xs : List V} {tf : TT} {te : TE} {τ0 : St} {H : Hp} {Fin : List V -> Hp -> Prop} (p : Nat -> Bool) (f : Nat -> V) (hn : xs.length <= sizeLine) (hl : SqL K H a xs)
  (htf : ∀ (i : Nat) x H' (Q : Bool -> Hp -> Prop), xs[i]? = some x -> az H H' -> (∀ H'', az H' H'' -> Q (p i) H'') -> tf (τ0.set 0 (some x)) H' Q)
  (hte : ∀ (i : Nat) x H' (Q : VK), xs[i]? = some x -> az H H' -> (∀ H'', az H' H'' -> Q (f i) H'') -> te (τ0.set 0 (some x)) H' Q)
  (hfin : ∀ H', az H H' -> Fin (((List.range xs.length).filter p).map f) H') : ph (iT 0) tf te (Itl K a) τ0 H Fin := by
 refine ⟨fun i m τ ys H' => m = xs.length - i /\ i <= xs.length /\ ys = ((List.range i).filter p).map f /\ az H H' /\ ∃ v, τ = τ0.set 0 v \/ τ = τ0, ⟨xs.length, rfl, zero_le _, rfl, az.refl _, none, .inr rfl⟩, ?_⟩
 rintro i m τ ys H' ⟨rfl, hi, rfl, sm, v, hτ⟩
 by_cases hlt : i < xs.length
 ·have hx : xs[i]? = some xs[i] := by simp [hlt]
  refine .inr ⟨⟨xs, xs[i], sm.seq hl, hx⟩, fun x H'' y => ?_⟩
  obtain ⟨rfl, y⟩ := y
  have ex : x = xs[i] := by have := y xs (sm.seq hl); rw [hx] at this; exact (Option.some.inj this).symm
  subst ex
  have e5 : τ.set 0 (some xs[i]) = τ0.set 0 (some xs[i]) := by
   rcases hτ with rfl | rfl
   ·rw [set_set]
   ·rfl
  show tf (τ.set 0 (some xs[i])) _ _
  rw [e5]
  refine htf i _ _ _ hx sm fun H3 s3 => ?_
  have fe : (List.range (i + 1)).filter p = (List.range i).filter p ++ (if p i = true then [i] else []) := by
   rw [range_succ, List.filter_append]
   by_cases h : p i = true
   ·rw [if_pos h, List.filter_cons_of_pos h, List.filter_nil]
   ·rw [if_neg h, List.filter_cons_of_neg h, List.filter_nil]
  cases hp : p i with
  | true =>
   dsimp only
   rw [if_pos rfl]
   refine hte i _ _ _ hx (sm.trans s3) fun H4 s4 => ?_
   refine ⟨?_, xs.length - (i + 1), Z1, rfl, hlt, ?_, sm.trans (s3.trans s4), _, .inl rfl⟩
   ·rw [length_map]
    have := length_filter_le p (List.range i)
    rw [length_range] at this
    omega
   ·rw [fe, if_pos hp, map_append]; rfl
  | false =>
   dsimp only
   refine ⟨xs.length - (i + 1), Z1, rfl, hlt, ?_, sm.trans s3, _, .inl rfl⟩
   rw [fe, if_neg (by rw [hp]; exact Bool.false_ne_true), append_nil]
 ·have e : i = xs.length := by omega
  subst e
  exact .inl ⟨⟨xs, sm.seq hl, le_refl _⟩, hfin H' sm⟩
section
variable {X : Cx} {e : Expr} {te : TE} {pos : Pos}
end
section
variable {X : Cx}
end
theorem uG (xs : List V) (k : Nat) : gU xs none (some (k : Int)) = xs.take k := by
 unfold gU
 rw [HT.sIx_none, HT.sIx_nat, List.drop_zero, Nat.sub_zero]
 by_cases h : k <= xs.length
 ·rw [min_eq_left h]
 ·rw [Nat.min_eq_right Z1, take_length, List.take_of_length_le Z1]
theorem HX {xs : List V} {n : Nat} (f : Nat -> V) (hl : xs.length = n) (h : ∀ (i : Nat) v, xs[i]? = some v -> v = f i) : xs = (List.range n).map f := by
 apply ext_getElem
 ·rw [length_map, length_range, hl]
 ·intro i h1 h2
  rw [h i _ (getElem?_eq_getElem h1)]
  simp
theorem vh {α : Type} [DecidableEq α] : ∀ (as bs : List α), as.Nodup -> (∀ x ∈ as, x ∈ bs) -> as.length <= bs.length
 | [], bs, _, _ => zero_le _
 | a :: as, bs, h, hs => by
  have h2 := nodup_cons.mp h
  have ha := hs a Z2
  have h3 := vh as (bs.erase a) h2.2 fun x hx => by
   have hne : x ≠ a := fun e => h2.1 (by rw [<- e]; exact hx)
   exact (List.mem_erase_of_ne hne).mpr (hs x (mem_cons_of_mem _ hx))
  rw [List.length_erase_of_mem ha] at h3
  have h4 : 0 < bs.length := List.length_pos_of_mem ha
  rw [length_cons]
  omega
end L2
namespace Mine
open PySem PySem.Spec PyProof.Rows L2 PySem.Builtin PySem.Builtin.Str
def jO (ks : List Int) : Str := ⟨(ks.map fun k => 97 + k.toNat).toArray⟩
def pN (ks : List Int) : Prop := ∀ k ∈ ks, 0 <= k /\ k < 26
theorem qC (ks : List Int) : (jO ks).cps.toList = ks.map fun k => 97 + k.toNat := by simp [jO]
theorem w6 (ks : List Int) : (jO ks).length = ks.length := by simp [jO, Str.length]
theorem Ja {ks : List Int} (h1 : 1 <= ks.length) (h8 : ks.length <= 8) (h : pN ks) : eZ (jO ks) := ⟨by rw [w6]; exact h1, by rw [w6]; exact h8, fun n hn => by
 rw [qC] at hn
 obtain ⟨k, hk, rfl⟩ := mem_map.mp hn
 have := h k hk
 omega⟩
theorem K6 {ks ls : List Int} (e : jO ks = jO ls) (hk : pN ks) (hl : pN ls) {i : Nat} {a b : Int} (ha : ks[i]? = some a) (hb : ls[i]? = some b) : a = b := by
 have e2 : (jO ks).cps.toList[i]? = (jO ls).cps.toList[i]? := by rw [e]
 rw [qC, qC, getElem?_map, getElem?_map, ha, hb] at e2
 have e3 : 97 + a.toNat = 97 + b.toNat := Option.some.inj e2
 have h1 := hk a (mem_of_getElem? ha)
 have h2 := hl b (mem_of_getElem? hb)
 omega
theorem Bu (ks : List Int) : Txt.join ("" : Str) (ks.map fun k => (⟨#[97 + k.toNat]⟩ : Str)) = jO ks := by
 rw [GZ]
 show glued _ _ = _
 rw [StrLaws.glued_eq_join]
 apply qY
 rw [n6, map_map, qC]
 induction ks with
 | nil => rfl
 | cons a r ih => simp only [map_cons, List.flatten_cons, ih] <;> rfl
theorem ints_of {xs : List V} (h : ∀ (i : Nat) v, xs[i]? = some v -> ∃ b : Int, v = V.int b /\ 0 <= b /\ b < 26) : ∃ bs : List Int, bs.length = xs.length /\ xs = bs.map V.int /\ pN bs := by
 obtain ⟨bs, hl, hb⟩ := rO (fun _ v b => v = V.int b /\ 0 <= b /\ b < 26) xs 0 (fun i v e => h i v e)
 have em : xs = bs.map V.int := by
  apply List.ext_getElem?
  intro i
  rw [getElem?_map]
  cases e : xs[i]? with
  | none =>
   have e2 : bs[i]? = none := by
    rw [List.getElem?_eq_none_iff] at e ⊢
    omega
   rw [e2]; rfl
  | some v =>
   obtain ⟨z, ez, rfl, _⟩ := hb i v e
   rw [ez]; rfl
 refine ⟨bs, hl, em, fun b hb' => ?_⟩
 obtain ⟨i, hi, e⟩ := getElem_of_mem hb'
 obtain ⟨z, ez, _, nz⟩ := hb i _ (getElem?_eq_getElem Z1)
 rw [getElem?_eq_getElem hi, e] at ez
 cases ez
 exact nz
theorem pN.take {ks : List Int} (h : pN ks) (n : Nat) : pN (ks.take n) := fun k hk => h k (List.mem_of_mem_take hk)
theorem pN.set {ks : List Int} (h : pN ks) (i : Nat) {a : Int} (h0 : 0 <= a) (h1 : a < 26) : pN (ks.set i a) := fun k hk => by
 rcases List.mem_or_eq_of_mem_set hk with z | z
 ·exact h k z
 ·rw [z]; exact ⟨h0, h1⟩
def nF (bs : List Int) (m one two : Nat) (n : Int) : List Int := ((bs.take m).set one ((bs.getD one 0 + n) % 26)).set two ((bs.getD two 0 + n / 26) % 26)
theorem vZ {bs : List Int} (h : pN bs) (m one two : Nat) (n : Int) : pN (nF bs m one two n) :=
 ((h.take m).set one Z1 Z1).set two Z1 Z1
theorem Gw {bs : List Int} {m one two : Nat} {n : Int} (h : m <= bs.length) : (nF bs m one two n).length = m := by
 unfold nF
 rw [length_set, length_set, length_take, min_eq_left h]
def nJ (bs : List Int) : List Str := (List.range 8).map fun i => jO (bs.take (i + 1))
theorem G6 {bs : List Int} (h : pN bs) (hl : bs.length = 8) : ∀ z ∈ nJ bs, eZ z := fun z hz => by
 obtain ⟨i, hi, rfl⟩ := mem_map.mp hz
 have hi := mem_range.mp hi
 exact Ja (by rw [length_take]; omega) (by rw [length_take]; omega) (h.take _)
theorem Hj {bs : List Int} (hl : bs.length = 8) : (nJ bs).Nodup := by
 unfold nJ
 refine List.pairwise_map.mpr (imp_of_mem (fun {a b} ha hb hlt e => ?_) List.pairwise_lt_range)
 have ha := mem_range.mp ha
 have hb := mem_range.mp hb
 have := congrArg Str.length e
 rw [w6, w6, length_take, length_take] at this
 omega
theorem Ke {m one t : Int} (hm : 0 < m) (h0 : 0 <= one) (h1 : one < m) (t0 : 0 <= t) (t1 : t < m - 1) : 0 <= (one + 1 + t) % m /\ (one + 1 + t) % m < m /\ (one + 1 + t) % m ≠ one := by
 refine ⟨emod_nonneg _ Z1, emod_lt_of_pos _ hm, fun e => ?_⟩
 by_cases k : one + 1 + t < m
 ·rw [Int.emod_eq_of_lt Z1 k] at e
  omega
 ·have h := Int.add_mul_emod_self_left (one + 1 + t - m) m 1
  rw [show one + 1 + t - m + m * 1 = one + 1 + t from by omega, Int.emod_eq_of_lt (a := one + 1 + t - m) Z1 Z1] at h
  omega
theorem lat {b : Int} (h0 : 0 <= b) (h1 : b < 26) : atI letters.cps.toList b = some (97 + b.toNat) := by
 have h := aZ (Bd h0 h1)
 rwa [show ((b.toNat : Nat) : Int) = b from by omega] at h
theorem Er {bs : List Int} {k : Int} (h0 : 0 <= k) (h1 : k < bs.length) : atI (bs.map V.int) k = some (V.int (bs.getD k.toNat 0)) := by
 have h2 : k.toNat < bs.length := by omega
 have h := aZ (xs := bs.map V.int) (j := k.toNat) (v := V.int (bs.getD k.toNat 0)) (by rw [getElem?_map, getElem?_eq_getElem h2]; simp [List.getD, h2])
 rwa [show ((k.toNat : Nat) : Int) = k from by omega] at h
theorem Jl {n : Nat} {k : Int} (h0 : 0 <= k) (h1 : k < n) : ixN n k = some k.toNat := by
 unfold ixN
 rw [if_pos h0, if_pos h1]
theorem BZ {bs : List Int} {k : Int} (h : 0 <= k) : gU (bs.map V.int) none (some k) = (bs.take k.toNat).map V.int := by
 have e := uG (bs.map V.int) k.toNat
 rw [show ((k.toNat : Nat) : Int) = k from by omega] at e
 rw [e, map_take]
theorem Hg {zs : List Str} {x : Str} (h : zs.Nodup) (hx : x ∉ zs) : (zs ++ [x]).Nodup := by
 refine List.pairwise_append.mpr ⟨h, List.pairwise_singleton _ _, fun a ha b hb => ?_⟩
 rw [mem_singleton.mp hb]
 exact fun e => hx (e ▸ ha)
theorem u0 {K : Frag} {a : Addr} {ks : List Int} {te : TE} {τ0 : L2.St} {H : Hp} {Fin : List V -> Hp -> Prop} (h8 : ks.length <= 8) (hr : pN ks) (hl : SqL K H a (ks.map V.int))
  (hte : ∀ (b : Int) H' (Q : VK), 0 <= b -> b < 26 -> az H H' -> Q (V.str ⟨#[97 + b.toNat]⟩) H' -> te (τ0.set 0 (some (V.int b))) H' Q)
  (hfin : ∀ H', az H H' -> Fin ((ks.map fun k => (⟨#[97 + k.toNat]⟩ : Str)).map V.str) H') : ph (iT 0) CK te (Itl K a) τ0 H Fin := by
 refine jM (fun j => V.str ⟨#[97 + (ks.getD j 0).toNat]⟩) (le_trans (show (ks.map V.int).length <= 8 by rw [length_map]; exact h8) Z0) hl (fun j x H' Q hx sm k => ?_) (fun H' sm => ?_)
 ·have hj : j < ks.length := by simpa using (List.getElem?_eq_some_iff.mp hx).1
  rw [getElem?_map, getElem?_eq_getElem hj] at hx
  obtain rfl : V.int ks[j] = x := Option.some.inj hx
  have hb := hr ks[j] (getElem_mem hj)
  refine hte _ _ _ hb.1 hb.2 sm ?_
  have k2 : Q (V.str ⟨#[97 + (ks.getD j 0).toNat]⟩) H' := k H' (az.refl H')
  have e : ks.getD j 0 = ks[j] := by simp [List.getD, hj]
  rw [e] at k2
  exact k2
 ·have e : (List.range (ks.map V.int).length).map (fun j => V.str ⟨#[97 + (ks.getD j 0).toNat]⟩) = (ks.map fun k => (⟨#[97 + k.toNat]⟩ : Str)).map V.str := by
   apply ext_getElem
   ·simp
   ·intro i h1 h2
    have : i < ks.length := by simpa using h2
    simp [this]
  have h := hfin H' sm
  rw [<- e] at h
  exact h
theorem uc {ks : List Int} (h : ks.length <= 8) : ((ks.map fun k => (⟨#[97 + k.toNat]⟩ : Str)).map (·.length)).sum + (ks.map fun k => (⟨#[97 + k.toNat]⟩ : Str)).length * (("" : Str)).length <= 16777216 := by
 have h1 : ((ks.map fun k => (⟨#[97 + k.toNat]⟩ : Str)).map (·.length)).sum <= (ks.map fun k => (⟨#[97 + k.toNat]⟩ : Str)).length * 1 := tO fun y hy => by
  obtain ⟨k, _, rfl⟩ := mem_map.mp hy
  exact le_refl 1
 have h2 : (("" : Str)).length = 0 := by decide +kernel
 rw [h2]
 rw [length_map] at h1 ⊢
 omega
theorem Iu {y : V} {s : Str} (h : eqV y (.str s) = true) : y = .str s := by
 cases y with
 | str a => simpa [eqV] using h
 | _ => simp [eqV] at h
theorem Gs {s : Str} {zs : List V} (h : V.str s ∈ zs) : inV (.str s) zs = true := by
 unfold inV
 rw [any_eq_true]
 exact ⟨_, h, by simp [eqV]⟩
theorem Kv {s : Str} {zs : List V} (h : inV (.str s) zs = true) : V.str s ∈ zs := by
 unfold inV at h
 obtain ⟨y, hy, e⟩ := any_eq_true.mp h
 rw [<- Iu e]
 exact hy
end Mine
namespace L2
open PySem PySem.Spec PyProof.Rows PySem.W
section
variable {prog : Program} {w : World} {A : Around} {R : Result -> Shared -> Prop} {h : Heap} {g : Array GenState} {d : Drawn} {t : Nat} {os : OsState}
variable {nm q : Str} {C N : Addr} {f : Value} {bs bm bmB : List Value} {hdct : Bool} {sn : List Str} {sub : List Value} {ab : Bool} {col : Option Bool} {dd : Option Addr} {k0 k1 k2 k3 k5 : Option Value} {B newId initId : String}
end
section
variable {prog : Program} {w : World} {A : Around} {E : EV} {s : Shared} {K : Frag} {x C : Addr} {ox : Obj} {od : Option Obj} {name : Str} {expr : Bool} {Q : EV}
end
section
variable {prog : Program} {w : World} {A : Around} {E : EV} {s : Shared} {K : Frag} {x C : Addr} {ox : Obj} {od : Option Obj} {name : Str} {expr : Bool} {Q : EV}
end
end L2
namespace L2
open PySem PySem.Spec PyProof.Rows PySem.W Builtin Builtin.ObjectAttr
section
variable {prog : Program} {w : World} {A : Around} {s : Shared} {K : Frag} {x C : Addr} {R : Result -> Shared -> Prop}
end
section
variable {prog : Program} {w : World} {A : Around} {E : EV} {s : Shared} {K : Frag} {x C : Addr} {name : Str} {v : Value} {vs : Array Value}
end
end L2
namespace L2
open PySem PySem.Spec PyProof.Rows PySem.W
section
variable {P : Program} {w : World} {H : Hp} {h : Heap} {fl : Bool} {x p C : Addr} {dx : Option Addr} {fs : List (Str × V)}
end
section
variable {X : Cx} {pins : OP} {σ : St} {H : Hp} {s : Shared} {fl : Bool} {a C dx : Addr} {fs : List (Str × V)} {f : Str} {v : V} {A : Around} {E : EV}
end
section
variable {X : Cx} {o e value : Expr} {f : Str} {pos pos' tpos : Pos} {ta tv : TE}
end
section
variable {X : Cx} {e v1 v2 : Expr} {es : List Expr} {te : TE} {tr : TJ} {pos : Pos}
end
section
variable {X : Cx} {pins : OP} {σ : St} {H : Hp} {s : Shared} {fl : Bool} {a C B : Addr} {dx : Option Addr} {A : Around} {E : EV}
end
section
variable {X : Cx} {CX : CXT} {k : Nat} {f C : Addr} {fd : FuncData} {ps : List Str} {sp : Sp} {dvs : List V} {ds : List Value} {E : XK} {x : Str} {p pos : Pos} {e : Expr} {es : List Expr} {t : TA}
end
section
variable {K : Frag} {C D N HE M : Addr} {nm q nm' q' : Str} {bs bs' bm bm' : List Value} {sn sn' : List Str} {sub sub' : List Value} {ab ab' hdct hdct' : Bool} {col col' : Option Bool} {dd dd' : Option Addr} {k0 k1 k2 k3 k5 j0 j1 j2 j3 j5 : Option Value} {oN : Value} {dN : Option Addr} {es : Array DictEntry} {nn : Nat} {sl : Array (Option Value)} {i i' : String}
end
section
variable {X : Cx} {k : Nat} {f C : Addr} {fd : FuncData} {ps : List Str} {sp : Sp} {x qual : Str} {st : Stmt} {p pos pos' : Pos} {e o value : Expr} {es : List Expr} {t : TA} {ta tv : TE} {g : Str}
end
section
variable {M : Model} {A : Around} {E : EV} {s : Shared} {base : Heap} {env : Env} {outer : List Env} {L e : Addr} {oe : Obj} {vs : Array Value} {Q : Unit -> Shared -> Prop}
end
section
variable {X : Cx} {pins : OP} {σ : St} {H H1 : Hp} {s s1 : Shared} {x C : Addr} {dx : Option Addr}
end
section
variable {P : Program} {w : World} {K : Frag} {mg : MG} {base : Heap} {N : List Str} {qual : Str} {scope : Scope} {f : Addr} {cd : Value} {A : Around} {outer : List Env} {s : Shared} {H : Hp} {E E1 : XK}
end
section
variable {X : Cx} {W : St -> XK} {k : Nat} {f C : Addr} {fd : FuncData} {ps : List Str} {sp : Sp} {x : Str} {st : Stmt} {p pos rpos : Pos} {e : Expr} {es : List Expr} {t : TA}
end
section
variable {P : Program} {w : World} {K : Frag} {mg : MG} {base : Heap}
end
section
variable {M : Model} {A : Around} {E : EV} {s : Shared} {env : Env}
end
section
variable {X : Cx} {W : St -> XK} {pos : Pos} {e : Expr} {te : TE}
end
section
variable {M : Model} {A : Around} {E : EV} {s : Shared}
end
section
variable {X : Cx} {pins : OP} {σ : St} {H : Hp} {s : Shared}
end
section
variable {X : Cx} {pins pins' : OP} {σ : St} {H : Hp} {s : Shared} {E : EV} {x : Addr}
end
section
variable {X : Cx} {pins : OP} {σ : St} {H0 H1 : Hp} {s0 s2 : Shared} {x C D T : Addr} {dx : Option Addr} {cx n : Str} {i : Nat} {np hpos pos : Pos} {b₀ : Stmt} {suite body orelse : List Stmt} {rest : List ExceptHandler} {ts to : TS} {En : Ends} {E : EV}
end
section
variable {X : Cx} {W : St -> XK} {k : Nat} {f C : Addr} {fd : FuncData} {ps : List Str} {sp : Sp} {m : Str} {p pos apos : Pos} {e o : Expr} {es : List Expr} {ta : TE} {t : TA}
theorem Im : OpR X (compareOp .IsNot) (fun x y H Q => ∃ a b, x = .bl a /\ y = .bl b /\ Q (.bl (!(a == b))) H) := by
 intro pins s σ H x y v u Q I rx ry h
 obtain ⟨a, b, rfl, rfl, q⟩ := h
 cases rx; cases ry
 have e : compareOp .IsNot (.bool a) (.bool b) = pure (Value.bool (!(a == b))) := by cases a <;> cases b <;> rfl
 rw [e]
 exact wpAny_pure ⟨.bl (!(a == b)), H, I, rfl, q⟩
theorem J3 {K : Frag} (h : X.K = K) : OpR X (compareOp .In) (rIn K false) := by subst h; exact qI
theorem wK {K : Frag} {m : Str} (h : X.K = K) (he : PE X e ta) (hb : attributeBase e m X.env (eval e X.env) = eval e X.env) : PE X (.Attribute e m pos) (K9 K ta m) := by subst h; exact aW he hb
theorem yS : ∀ {ys : List Str} {us : List Value}, StrsAre us ys -> Vals (ys.map V.str) us
 | _, _, .nil => .nil
 | _, _, .cons y t h => .cons ⟨t, rfl⟩ (yS h)
end
section
variable {X : Cx} {W : St -> XK} {k : Nat} {f C : Addr} {fd : FuncData} {ps : List Str} {sp : Sp} {x : Str} {p p2 pos : Pos} {e stp : Expr} {es : List Expr} {te tf : TE} {tk : TO} {t : TA}
theorem bN {b : List Stmt} : QSs X b (fun _ _ _ => False) := ⟨by
 intro pins s σ H En I h
 exact h.elim⟩
end
theorem Ir {P : Program} {w : World} {z : Str} {u : Value} (h : (bL P w).is (.inr z) u = true) : ∃ t, u = .str z t := Value.isStrOf_shape (x := z) (v := u) h
theorem uq : ∀ {us : List Value} {ks : List Str}, us.length = ks.length -> (∀ (j : Nat) v k, us[j]? = some v -> ks[j]? = some k -> ∃ t, v = .str k t) -> StrsAre us ks
 | [], [], _, _ => .nil
 | u :: us, k :: ks, hl, h => by
  obtain ⟨t, rfl⟩ := h 0 u k rfl rfl
  exact .cons k t (uq (by simpa using hl) fun j v k' e1 e2 => h (j + 1) v k' e1 e2)
 | [], _ :: _, hl, _ => by simp at hl
 | _ :: _, [], hl, _ => by simp at hl
section
variable {prog : Program} {w : World} {A : Around} {E : EV} {s : Shared}
theorem yL {d : Addr} {kvs : List (Key × Value)} {ks : List Str} {Q : EV} (hh : A.handled = none) (lo : (d == sysModules) = false) (hD : s.heap.DictOf (bL prog w) d kvs) (hk : kvs.map (·.1) = ks.map Sum.inr) (h64 : ks.length < 64)
  (h : ∀ (h1 h' : Heap) (tk : Nat) (out : Array Value) (ss' : List Str) (e : Nat), (∀ b o, s.heap.get? b = some o -> h1.get? b = some o) -> (∀ b o, h1.get? b = some o -> h'.get? b = some o) -> h'.get? h1.objs.size = some (seqObj "list" out e) -> StrsAre out.toList ss' -> ss'.Perm ks -> sortedS ss' = true -> Q (.ref h1.objs.size) { s with heap := h', toks := tk }) :
  wpAny (model prog w) A (call (.builtin "sorted") [.ref d]) Q E s := by
 obtain ⟨ep, hat⟩ := hD.dictAt
 have hlen : kvs.length = ks.length := by have := congrArg List.length hk; simpa using this
 have hsz : kvs.length <= sizeLine := le_trans (show kvs.length <= 64 by omega) Z0
 refine Calls.call_function_entry kind_sorted plain_sorted entry_sorted (args_sorted1 _) ?_
 unfold Builtin.«sorted»
 refine wpAny_bind (m := checkCount "sorted" 1 1 _) (wpAny_pure ?_)
 refine wpAny_bind (kdu_collect (A := A.in1) (kdl_dict (knd := bL prog w) (kvs := kvs) (ep := ep) lo) hh hat hsz fun h' tk acc hk' hacc => ?_)
 have hl : acc.toList.length = kvs.length := by rw [length_toList]; exact hacc.1
 have hS : StrsAre acc.toList ks := uq Z1 fun j v k e1 e2 => by
  obtain ⟨k2, x, e3, e4⟩ := hacc.2 j v (by rw [<- Array.getElem?_toList]; exact e1)
  have e5 : (kvs.map (·.1))[j]? = some k2 := by rw [getElem?_map, e3]; rfl
  rw [hk, getElem?_map, e2] at e5
  cases e5
  exact Ir e4
 refine wpAny_bind (wpAny_newList ?_ (by rw [hl]; exact hsz))
 have hoL : (h'.push (seqObj "list" acc.toList.toArray 0)).get? h'.objs.size = some (seqObj "list" acc.toList.toArray 0) := Heap.get?_push_size _ rfl
 refine wpAny_bind (wpAny_holding (wpAny_call_entry slot_list_sort ⟨_, hoL, rfl⟩ entry_list_sort (list_sort_treeK strKind_oneLt hoL hS.keysOf (fun v₁ v₂ rest e => keyKind_strs (by rw [<- e]; exact hS)) Z1 fun st' a1 a2 => ⟨_, rfl, ?_⟩) (args_list_sort _)))
 obtain ⟨ss', b1, b2, b3⟩ := sorted_out_str hS a1 a2
 obtain ⟨e, he⟩ := sortedHeap_at (out := (arrOf st').map (·.2)) hoL
 refine wpAny_pure ⟨_, rfl, h h' _ _ _ ss' e hk' (fun b o hb => ?_) he b1 b2 b3⟩
 have hlt := Heap.lt_size hb
 rw [sortedHeap_old (ne_of_lt hlt) (by rw [size_push']; exact Nat.lt_succ_of_lt hlt), Heap.get?_push_ne _ _ _ (ne_of_lt hlt)]
 exact hb
end
section
variable {X : Cx}
theorem Cp : ∀ {kvs : List (Key × V)} {vs : List (Key × Value)}, KV kvs vs -> vs.map (·.1) = kvs.map (·.1) := by
 intro kvs vs r
 unfold KV at r
 induction r with
 | nil => rfl
 | cons h t ih => rw [map_cons, map_cons, ih, h.1]
theorem vV (hc : X.calm = true) : jg X (.builtin "sorted") (fun xs H Q => ∃ p kvs ks, xs = [.ref p] /\ H p = some (.dK kvs) /\ kvs.map (·.1) = ks.map Sum.inr /\ ks.length < 64 /\ ∀ l ys', ys'.Perm ks -> sortedS ys' = true -> H l = none -> Q (.ref l) (upd H l (.lst (ys'.map V.str)))) := by
 intro pins s σ H xs us Q I r h
 obtain ⟨p, kvs, ks, rfl, hl, hk, hn, q⟩ := h
 obtain ⟨u, rfl, ru⟩ := vals1 r
 obtain rfl : u = Value.ref p := ru
 obtain ⟨_, lo, vs, rv, hD⟩ := Ew I.hok hl
 refine yL (I.ok.hd hc) lo hD (by rw [Cp rv]; exact hk) hn fun h1 h' tk out ss' e k1 k2 he b1 b2 b3 => ?_
 have I1 : Inv X pins σ H { s with heap := h1, toks := tk } := I.kept (t' := tk) k1
 have hz : (ss'.map V.str).length <= sizeLine := by rw [length_map, b2.length_eq]; exact le_trans (le_of_lt hn) Z0
 refine ⟨.ref h1.objs.size, _, I1.laid (a := h1.objs.size) (o := .lst (ss'.map V.str)) (t' := tk) k2 (le_refl _) ?_, rfl, q _ ss' b2 b3 (I1.hok.fresh (le_refl _))⟩
 exact ⟨hz, out.toList, e, yS b1, by simpa [seqObj] using he⟩
end
section
variable {P : Program} {w : World} {K : Frag} {mg : MG} {base : Heap}
end
section
variable {X : Cx} {k : Nat} {f y : Addr} {fd : FuncData} {ps : List Str} {sp : Sp} {x : Str} {st : Stmt} {p pos : Pos} {e : Expr} {es : List Expr} {t : TA} {pins0 : OP} {E0' : EV}
end
section
variable {X : Cx} {W : St -> XK} {k : Nat} {f C : Addr} {fd : FuncData} {ps : List Str} {sp : Sp} {x : Str} {p pos : Pos} {e : Expr} {es : List Expr} {t : TA}
end
section
variable {X : Cx}
end
def Itd (d : Addr) (o : Obj) (kvs : List (Key × V)) : It := ⟨fun i H => H d = some (.frz o (.dK kvs)) /\ i < kvs.length, fun i H x H' => H' = H /\ ∃ k v, kvs[i]? = some (k, v) /\ x = kV k, fun i H => H d = some (.frz o (.dK kvs)) /\ kvs.length <= i⟩
theorem Cu {P : Program} {w : World} {k : Key} {u : Value} (h : (bL P w).is k u = true) : RelV (kV k) u := by
 rcases cu h with ⟨i, t, rfl, rfl⟩ | ⟨x, t, rfl, rfl⟩
 ·exact ⟨t, rfl⟩
 ·exact ⟨t, rfl⟩
theorem IW : ∀ {kvs : List (Key × V)} {vs : List (Key × Value)}, KV kvs vs -> ∀ {i : Nat} {k : Key} {x : Value}, vs[i]? = some (k, x) -> ∃ v, kvs[i]? = some (k, v) := by
 intro kvs vs r
 unfold KV at r
 induction r with
 | nil => intro i k x e; simp at e
 | @cons p q ps qs h t ih =>
  intro i k x e
  cases i with
  | zero =>
   cases e
   have h1 : p.1 = k := h.1
   exact ⟨p.2, by rw [<- h1]; rfl⟩
  | succ i => exact ih e
theorem Aq {kvs : List (Key × V)} {vs : List (Key × Value)} (r : KV kvs vs) : kvs.length = vs.length := by have := congrArg List.length (Cp r); simpa using this.symm
theorem Dw {P : Program} {w : World} {K : Frag} {tg : Expr} {d it : Addr} {o : Obj} {kvs : List (Key × V)} {vs : List (Key × Value)} {ep : Nat} (hne : d ≠ it) (r : KV kvs vs) (ho : ∀ h : Heap, h.get? d = some o -> h.DictAt (bL P w) d vs ep) :
  Turn P w K tg (Itd d o kvs) [it] it (fun i h => h.IsKeyIter it d i vs.length ep) where
 mem := by simp
 obj := fun i h st b hb => by
  have e : b = it := by simpa using hb
  subst e
  obtain ⟨o, e, c, d⟩ := st
  exact ⟨o, e, fun v z => by rw [d] at z; cases z⟩
 keep := fun i h h' st k => st.at fun o e => k it Z2 o e
 item := by
  intro X hP hw hK hc i pins s σ H E I hf st hg
  subst hP hw hK
  obtain ⟨hd, hi⟩ := hg
  obtain ⟨hget, _⟩ := (show bM X.prog X.w H s.heap d (.frz o (.dK kvs)) from I.hok d _ hd)
  obtain ⟨f0, f1, f2, f3, f4, f5⟩ := hf it Z2
  refine (Walks.dictKeys (I.ok.hd hc) it d hne vs ep).item i s _ E (by rw [<- Aq r]; exact hi) ⟨st, ho _ hget⟩ fun v h' tk hp hst hk => ?_
  obtain ⟨k, x, hx, hkv⟩ := hp
  obtain ⟨y, hy⟩ := IW r hx
  have I1 : Inv X pins σ H { s with heap := h', toks := tk } := I.turned (t' := tk) (fun b o hb e => hk b o (by simpa using hb) e) f0 f1 f3 f4 f5
  obtain ⟨o2, e2, c2, d2⟩ := id hst.1
  exact ⟨v, rfl, Ca (s := { s with heap := h', toks := tk }) e2 c2 d2 Z0 ⟨kV k, H, I1, Cu hkv, ⟨rfl, k, y, hy, rfl⟩, hst.1, fun b hb => (hf b hb).1⟩⟩
 done := by
  intro X hP hw hK hc i pins s σ H E I hf st hg
  subst hP hw hK
  obtain ⟨hd, hi⟩ := hg
  obtain ⟨hget, _⟩ := (show bM X.prog X.w H s.heap d (.frz o (.dK kvs)) from I.hok d _ hd)
  obtain ⟨f0, f1, f2, f3, f4, f5⟩ := hf it Z2
  exact wpAny_pyNext_dict_end (I.ok.hd hc) st (ho _ hget) (by rw [List.getElem?_eq_none_iff, <- Aq r]; exact hi) fun h' eb => ⟨rfl, I.turned (t' := s.toks) (fun b o hb e => eb b o hb e) f0 f1 f3 f4 f5⟩
 self := fun _ _ _ _ _ st h => wpAny_pyIter_keyiter st h
section
variable {X : Cx} {tg : Expr}
def Ms (tl : TE) : TI := fun σ H R => tl σ H fun x H1 => ∃ d kvs, x = .ref d /\ ((∃ o, H1 d = some (.frz o (.dK kvs)) /\ R (Itd d o kvs) H1) \/ (H1 d = some (.dK kvs) /\ ∀ o, R (Itd d o kvs) (upd H1 d (.frz o (.dK kvs)))))
theorem Hr {l : Expr} {tl : TE} (hl : PE X l tl) : PI X tg l (Ms tl) := by
 intro pins s σ H R I h
 refine thn (hl pins s σ H _ I h) fun v s1 ⟨x, H1, I1, r1, q1⟩ => ?_
 obtain ⟨d, kvs, e, q⟩ := q1
 subst e
 cases r1
 obtain ⟨o, H2, hd, I2, q2⟩ : ∃ o H2, H2 d = some (.frz o (.dK kvs)) /\ Inv X pins σ H2 s1 /\ R (Itd d o kvs) H2 := by
  rcases q with ⟨o, hd, q⟩ | ⟨hd, q⟩
  ·exact ⟨o, H1, hd, I1, q⟩
  ·have hob := I1.hok d _ hd
   obtain ⟨z, lo, vs, rv, hD⟩ := (show bM X.prog X.w H1 s1.heap d (.dK kvs) from hob)
   obtain ⟨o, es, ep, ho, rest⟩ := id hD
   refine ⟨o, _, ao, I1.write (x := d) (e := d) (o := .frz o (.dK kvs)) (t' := s1.toks) (by rw [hd]; exact True.intro) (.inl rfl) (fun b u _ e => e) ⟨o, ho⟩ ⟨ho, z, lo, vs, rv, hD⟩, q o⟩
 obtain ⟨hget, z, lo, vs, rv, hD⟩ := (show bM X.prog X.w H2 s1.heap d (.frz o (.dK kvs)) from I2.hok d _ hd)
 obtain ⟨ep, hat⟩ := hD.dictAt
 refine wpAny_pyIter_dict lo hat ?_
 have hdl : d ≠ s1.heap.objs.size := ne_of_lt (Heap.lt_size hget)
 refine ⟨s1.heap.objs.size, [s1.heap.objs.size], _, _, H2, rfl, I2.kept (t' := s1.toks) fun b o e => Heap.get?_push_of_some _ e, Dw (vs := vs) (ep := ep) hdl rv (fun h e => ?_), ⟨_, Heap.get?_push_size _ rfl, rfl, rfl⟩, fun b hb => ?_, q2⟩
 ·obtain ⟨o2, es, ho2, rest⟩ := id hat
  rw [hget] at ho2
  cases ho2
  exact ⟨_, es, e, rest⟩
 ·have e : b = s1.heap.objs.size := by simpa using hb
  subst e
  exact I2.fpOk (le_refl _) (I2.hok.fresh (le_refl _))
end
theorem Ad {d : Addr} {o : Obj} {kvs : List (Key × V)} {tf : TT} {te : TE} {τ0 : St} {H : Hp} {Fin : List V -> Hp -> Prop} (p : V -> Bool) (hn : kvs.length <= sizeLine) (hl : H d = some (.frz o (.dK kvs)))
  (htf : ∀ x H' (Q : Bool -> Hp -> Prop), x ∈ kvs.map (fun kv => kV kv.1) -> az H H' -> (∀ H'', az H' H'' -> Q (p x) H'') -> tf (τ0.set 0 (some x)) H' Q)
  (hte : ∀ x H' (Q : VK), x ∈ kvs.map (fun kv => kV kv.1) -> az H H' -> (∀ H'', az H' H'' -> Q x H'') -> te (τ0.set 0 (some x)) H' Q)
  (hfin : ∀ H', az H H' -> Fin ((kvs.map fun kv => kV kv.1).filter p) H') : ph (iT 0) tf te (Itd d o kvs) τ0 H Fin := by
 have hxl : (kvs.map fun kv => kV kv.1).length = kvs.length := length_map _
 have hxa : ∀ {i : Nat} {k : Key} {v : V}, kvs[i]? = some (k, v) -> (kvs.map fun kv => kV kv.1)[i]? = some (kV k) := fun {i k v} e => by rw [getElem?_map, e]; rfl
 generalize (kvs.map fun kv => kV kv.1) = xs at htf hte hfin hxl hxa
 refine ⟨fun i m τ ys H' => m = xs.length - i /\ i <= xs.length /\ ys = (xs.take i).filter p /\ az H H' /\ ∃ v, τ = τ0.set 0 v \/ τ = τ0, ⟨xs.length, rfl, zero_le _, rfl, az.refl _, none, .inr rfl⟩, ?_⟩
 rintro i m τ ys H' ⟨rfl, hi, rfl, sm, v, hτ⟩
 by_cases hlt : i < xs.length
 ·refine .inr ⟨⟨sm _ _ hl, Z1⟩, fun x H'' y => ?_⟩
  obtain ⟨e, k, v, hx, rfl⟩ := y
  subst e
  have hx := hxa hx
  have e2 : τ.set 0 (some (kV k)) = τ0.set 0 (some (kV k)) := by
   rcases hτ with rfl | rfl
   ·rw [set_set]
   ·rfl
  unfold iT
  rw [e2]
  have e3 : (xs.take (i + 1)).filter p = (xs.take i).filter p ++ (if p (kV k) = true then [kV k] else []) := by
   rw [List.take_add_one, hx, List.filter_append]
   congr 1
   show [kV k].filter p = _
   rw [List.filter_cons]
   rfl
  refine htf (kV k) H'' _ (mem_of_getElem? hx) sm fun H4 s4 => ?_
  cases hp : p (kV k) with
  | true =>
   rw [if_pos rfl]
   refine hte (kV k) H4 _ (mem_of_getElem? hx) (sm.trans s4) fun H5 s5 => ?_
   refine ⟨?_, xs.length - (i + 1), Z1, rfl, hlt, ?_, sm.trans (s4.trans s5), _, .inl rfl⟩
   ·have := length_filter_le p (xs.take i)
    rw [length_take] at this
    omega
   ·rw [e3, hp]; rfl
  | false =>
   rw [if_neg Z0]
   refine ⟨xs.length - (i + 1), Z1, rfl, hlt, ?_, sm.trans s4, _, .inl rfl⟩
   rw [e3, hp]; simp
 ·have e : i = xs.length := by omega
  subst e
  exact .inl ⟨⟨sm _ _ hl, Z1⟩, by have := hfin H' sm; rw [take_length]; exact this⟩
section
variable {X : Cx} {pins : OP} {σ : St} {H : Hp} {s : Shared}
end
end L2
namespace Kn
section
variable {α : Type}
end
end Kn
namespace L2
open PySem PySem.Spec PyProof.Rows PySem.W
section
variable {X : Cx} {pins : OP} {σ : St} {H : Hp} {s : Shared}
end
open AutoSeq1 (wpAny_loadPart')
open MeetsSeq MeetsSeq2 MeetsSeq3 SeqRoads2
section
variable {prog : Program} {w : World} {A : Around} {R : Result -> Shared -> Prop} {I : Addr} {fp wr : List Addr} {n : Nat} {P : Nat -> Value -> Prop} {St : Nat -> Heap -> Prop}
end
section
variable {X : Cx}
end
section
variable {X : Cx}
end
section
variable {X : Cx} {pins : OP} {σ : St} {H : Hp} {s : Shared}
end
section
variable {prog : Program} {w : World} {A : Around} {E : EV} {s : Shared}
section
variable {K : Type} [DecidableEq K] {knd : KeyKind prog w K}
end
end
section
variable {X : Cx}
end
theorem Inv.thaw {X : Cx} {pins : OP} {σ σ1 : St} {H H1 : Hp} {s s1 : Shared} {d : Addr} {o : Obj} {kvs : List (Key × V)} (I : Inv X pins σ H s) (hd : H d = some (.dK kvs)) (I1 : Inv X pins σ1 H1 s1) (h1 : H1 d = some (.frz o (.dK kvs))) : Inv X pins σ1 (upd H1 d (.dK kvs)) s1 := by
 have ne : ∀ b, H b = none -> b ≠ d := fun b e z => by rw [z, hd] at e; cases e
 refine ⟨I1.ok, I1.os, I1.bare, ⟨I1.base.keep, I1.base.slot, fun b ob q n hx => ?_, I1.base.there, fun b xs q => ?_, fun b ob u q => ?_, fun b ps q => ?_⟩, I1.loc, I1.cell, ?_, fun x c e => ?_, fun p hp => ?_, fun b u e => ?_, I1.len⟩
 ·rw [aA (ne b (I.base.free b ob q n hx))]; exact I1.base.free b ob q n hx
 ·have z : b ≠ d := fun z => by have := I.base.tups b xs q; rw [z, hd] at this; cases this
  rw [aA z]; exact I1.base.tups b xs q
 ·have z : b ≠ d := fun z => by have := I.base.frzs b ob u q; rw [z, hd] at this; cases this
  rw [aA z]; exact I1.base.frzs b ob u q
 ·have z : b ≠ d := fun z => by obtain ⟨m, k⟩ := I.base.tbls b ps q; rw [z, hd] at k; cases k
  rw [aA z]; exact I1.base.tbls b ps q
 ·rw [aA (ne _ I.free)]; exact I1.free
 ·rw [aA (ne _ (I.freeC x c e))]; exact I1.freeC x c e
 ·obtain ⟨p1, p2, p3⟩ := I1.pin p hp
  exact ⟨p1, by rw [aA (ne _ (I.pin p hp).2.1)]; exact p2, p3⟩
 ·by_cases hb : b = d
  ·subst hb
   rw [ao] at e
   cases e
   obtain ⟨_, q⟩ := (show bM X.prog X.w H1 s1.heap b (.frz o (.dK kvs)) from I1.hok b _ h1)
   exact q
  ·rw [aA hb] at e
   exact (I1.hok b u e).stay (fun c v _ q => q) (fun c q => by rw [aA fun z => by rw [z, h1] at q; cases q]; exact q) fun c xs q => by rw [aA fun z => by rw [z, h1] at q; cases q]; exact q
def Mu (ts : TS) : TS := fun D σ H => ∃ d kvs, H d = some (.dK kvs) /\ ts ⟨fun σ1 H1 => ∃ o, H1 d = some (.frz o (.dK kvs)) /\ D.nx σ1 (upd H1 d (.dK kvs)), fun _ _ => False, fun _ _ => False, fun _ _ => False⟩ σ H
theorem Hw {X : Cx} {st : Stmt} {ts : TS} (h : QS X st ts) : QS X st (Mu ts) := ⟨by
 intro pins s σ H D I hh
 obtain ⟨d, kvs, hd, hh⟩ := hh
 refine thn (h.h pins s σ H _ I hh) fun f s1 hf => ?_
 cases f with
 | next =>
  obtain ⟨σ1, H1, I1, o, h1, q⟩ := hf
  exact ⟨σ1, _, I.thaw hd I1 h1, q⟩
 | brk => obtain ⟨_, _, _, x⟩ := hf; exact x.elim
 | cont => obtain ⟨_, _, _, x⟩ := hf; exact x.elim
 | ret u => obtain ⟨_, _, _, _, _, x⟩ := hf; exact x.elim⟩
theorem Inv.track {X : Cx} {pins : OP} {σ : St} {H0 H : Hp} {s0 s : Shared} {a : Addr} {o : HO} (I0 : Inv X pins σ H0 s0) (hp : s0.heap.objs.size <= a) (I : Inv X pins σ H s) (hn : H a = none) (new : bM X.prog X.w (upd H a o) s.heap a o) : Inv X pins σ (upd H a o) s := by
 have lt : ∀ b u, s0.heap.get? b = some u -> b ≠ a := fun b u e z => Nat.not_lt.mpr hp (z ▸ Heap.lt_size e)
 have nn : ∀ b u, H b = some u -> b ≠ a := fun b u e z => by rw [z, hn] at e; cases e
 refine ⟨I.ok, I.os, I.bare, ⟨I.base.keep, I.base.slot, fun b ob q n hx => ?_, I.base.there, fun b xs q => ?_, fun b ob u q => ?_, fun b ps q => ?_⟩, I.loc, I.cell, ?_, fun x c e => ?_, fun p hp => ?_, fun b u e => ?_, I.len⟩
 ·obtain ⟨o', e⟩ := I0.base.there b ob q hx
  rw [aA (lt b _ e)]; exact I.base.free b ob q n hx
 ·have k := I.base.tups b xs q
  rw [aA (nn b _ k)]; exact k
 ·have k := I.base.frzs b ob u q
  rw [aA (nn b _ k)]; exact k
 ·obtain ⟨m, k⟩ := I.base.tbls b ps q
  exact ⟨m, by rw [aA (nn b _ k)]; exact k⟩
 ·obtain ⟨m, hm, _⟩ := I0.loc
  rw [aA (a := a) (b := X.env.locals) (fun z => Nat.not_lt.mpr hp (z ▸ hm.lt))]; exact I.free
 ·obtain ⟨v, ob, e1, _⟩ := I0.cell x c e
  rw [aA (lt c _ e1)]; exact I.freeC x c e
 ·obtain ⟨p1, p2, p3⟩ := I.pin p hp
  exact ⟨p1, by rw [aA (lt _ _ (I0.pin p hp).1)]; exact p2, p3⟩
 ·by_cases hb : b = a
  ·subst hb
   rw [ao] at e
   cases e
   exact new
  ·rw [aA hb] at e
   exact (I.hok b u e).stay (fun c v _ q => q) (fun c q => by rw [aA (nn c _ q)]; exact q) fun c xs q => by rw [aA (nn c _ q)]; exact q
def ItO (r d : Addr) : HO := .ext fun h => h.IsItemsView r d
theorem vC : ∀ as : List Addr, Vals (as.map V.ref) (as.map Value.ref)
 | [] => .nil
 | a :: as => .cons rfl (vC as)
theorem JK : ∀ {kvs : List (Key × V)} {vs : List (Key × Value)}, KV kvs vs -> ∀ {i : Nat} {k k' : Key} {v : V} {x : Value}, kvs[i]? = some (k, v) -> vs[i]? = some (k', x) -> RelV v x := by
 intro kvs vs r
 unfold KV at r
 induction r with
 | nil => intro i k k' v x e; simp at e
 | @cons p q ps qs h t ih =>
  intro i k k' v x e1 e2
  cases i with
  | zero => cases e1; cases e2; exact h.2
  | succ i => exact ih e1 e2
section
variable {X : Cx}
def Kg : V -> List V -> Hp -> VK -> Prop := fun x vs H Q => ∃ d kvs, x = .ref d /\ vs = [] /\ Rd H d (.dK kvs) /\ ∀ r, H r = none -> Q (.ref r) (upd H r (ItO r d))
theorem Gq : MtM X "dict.items" Kg := by
 intro pins s σ H x vs v us Q I rx rv h
 obtain ⟨d, kvs, rfl, rfl, hd, q⟩ := h
 cases rx
 have hus := rv.zero
 subst hus
 obtain ⟨z, lo, ws, rel, hD⟩ := (show bM X.prog X.w H s.heap d (.dK kvs) from hd.ok I.hok)
 refine call_meetsIn PySem.F.slot_dict_items hD.typeIs PySem.F.entry_dict_items (PySem.F.args_dict_items_1 _) (meets_dict_items (bL X.prog X.w) d lo) ⟨⟨ws, hD⟩, ?_⟩
 have hn : H s.heap.objs.size = none := I.hok.fresh (le_refl _)
 exact ⟨.ref _, _, I.laid (o := ItO _ d) (t' := s.toks) (fun b u e => Heap.get?_push_of_some _ e) (le_refl _) ⟨⟨_, Heap.get?_push_size _ rfl, rfl, rfl⟩, ⟨_, Heap.get?_push_size _ rfl⟩, fun h1 h2 ⟨o, e, c⟩ k => ⟨o, k _ e, c⟩⟩, rfl, q _ hn⟩
theorem yC {pins : OP} {σ : St} {H0 : Hp} {s0 s : Shared} (I0 : Inv X pins σ H0 s0) : ∀ (as : List Addr) (ps : List (V × V)) {H : Hp}, as.length = ps.length -> as.Nodup -> (∀ a ∈ as, s0.heap.objs.size <= a /\ H a = none) ->
  (∀ (i : Nat) a p, as[i]? = some a -> ps[i]? = some p -> ∃ u v, RelV p.1 u /\ RelV p.2 v /\ s.heap.get? a = some { cls := .type "tuple", data := .seq #[u, v] }) -> Inv X pins σ H s ->
  ∃ H', Inv X pins σ H' s /\ (∀ b, b ∉ as -> H' b = H b) /\ ∀ (i : Nat) a p, as[i]? = some a -> ps[i]? = some p -> H' a = some (.tup [p.1, p.2])
 | [], _, H, _, _, _, _, I => ⟨H, I, fun _ _ => rfl, fun i a p e => by cases e⟩
 | a :: as, p :: ps, H, hl, nd, hf, hv, I => by
  obtain ⟨hp, hn⟩ := hf a mem_cons_self
  obtain ⟨nd1, nd2⟩ := nodup_cons.mp nd
  obtain ⟨u, v, ru, rv, e⟩ := hv 0 a p rfl rfl
  have I1 : Inv X pins σ (upd H a (.tup [p.1, p.2])) s := I0.track hp I hn ⟨by show 2 <= sizeLine; decide, [u, v], .cons ru (.cons rv .nil), _, e, rfl, _, rfl⟩
  obtain ⟨H', I', same, tup⟩ := yC I0 as ps (Nat.succ.inj hl) nd2 (fun b hb => ⟨(hf b (mem_cons_of_mem _ hb)).1, (aA (show b ≠ a from fun z => nd1 (z ▸ hb))).trans (hf b (mem_cons_of_mem _ hb)).2⟩) (fun i b q e1 e2 => hv (i + 1) b q e1 e2) I1
  refine ⟨H', I', fun b hb => ?_, fun i b q e1 e2 => ?_⟩
  ·rw [same b fun z => hb (mem_cons_of_mem _ z)]
   exact aA (show b ≠ a from fun z => hb (by rw [z]; exact mem_cons_self))
  ·cases i with
   | zero => cases e1; cases e2; rw [same a nd1, ao]
   | succ i => exact tup i b q e1 e2
theorem zG (hc : X.calm = true) : jg X (.type "list") (fun vs H Q => ∃ r d kvs, vs = [.ref r] /\ H r = some (ItO r d) /\ Rd H d (.dK kvs) /\ ∀ (l : Addr) (as : List Addr) (H' : Hp), H l = none -> as.length = kvs.length -> az H H' -> H' l = some (.lst (as.map V.ref)) -> (∀ (i : Nat) k v, kvs[i]? = some (k, v) -> ∃ a, as[i]? = some a /\ H' a = some (.tup [kV k, v])) -> Q (.ref l) H') := by
 intro pins s σ H xs us Q I rv h
 obtain ⟨r, d, kvs, rfl, hr, hd, q⟩ := h
 obtain ⟨u, rfl, ru⟩ := vals1 rv
 cases (show u = Value.ref r from ru)
 obtain ⟨hv, _, _⟩ := (show bM X.prog X.w H s.heap r (ItO r d) from I.hok r _ hr)
 obtain ⟨z, lo, ws, rel, hD⟩ := (show bM X.prog X.w H s.heap d (.dK kvs) from hd.ok I.hok)
 obtain ⟨ep, hat⟩ := hD.dictAt
 have hlen := Aq rel
 refine kdx_call (knd := bL X.prog X.w) (I.ok.hd hc) hv hat (by rw [<- hlen]; exact z) fun h' tk acc c as hk hS hl hG hacc => ?_
 have hn : H s.heap.objs.size = none := I.hok.fresh (le_refl _)
 have hfr : ∀ a ∈ as, s.heap.objs.size <= a := fun a ha => le_of_lt (hG.above a ha)
 have nd : as.Nodup := hG.rise.imp fun h => ne_of_lt h
 have ek : acc = (as.map Value.ref).toArray := by rw [<- hacc, Array.toArray_toList]
 subst ek
 have I1 : Inv X pins σ (upd H s.heap.objs.size (.lst (as.map V.ref))) { s with heap := h', toks := tk } := I.laid hk (le_refl _) ⟨by rw [length_map, hl, <- hlen]; exact z, as.map Value.ref, c, vC as, hS⟩
 obtain ⟨H', I', same, tup⟩ := yC (s0 := s) I as (kvs.map fun kv => (kV kv.1, kv.2)) (by rw [length_map, hl, hlen]) nd (fun a ha => ⟨hfr a ha, by rw [aA (ne_of_gt (hG.above a ha))]; exact I.hok.fresh (hfr a ha)⟩) (fun i a p e1 e2 => by
  obtain ⟨key, k, x, e3, e4, e5⟩ := hG.pairs i a e1
  obtain ⟨y, ey⟩ := IW rel e3
  rw [getElem?_map, ey] at e2
  cases e2
  exact ⟨key, x, Cu e4, JK rel ey e3, e5⟩) I1
 refine ⟨.ref _, H', I', rfl, q _ as H' hn (by rw [hl, hlen]) (fun b o e => ?_) (by rw [same _ fun z => lt_irrefl _ (hG.above _ z)]; exact ao) fun i k v e => ?_⟩
 ·have z1 : b ∉ as := fun z => by have := I.hok.fresh (hfr b z); rw [this] at e; cases e
  rw [same b z1, aA (ak e hn)]; exact e
 ·have hi : i < as.length := by rw [hl, <- hlen]; exact (List.getElem?_eq_some_iff.mp e).1
  exact ⟨as[i], getElem?_eq_getElem hi, tup i _ (kV k, v) (getElem?_eq_getElem hi) (by rw [getElem?_map, e]; rfl)⟩
end
theorem tR {X : Cx} (hc : X.calm = true) : jg X (.type "dict") (fun vs H Q => ∃ d kvs, vs = [.ref d] /\ Rd H d (.dK kvs) /\ ∀ p, H p = none -> Q (.ref p) (upd H p (.dK kvs))) := by
 intro pins s σ H xs us Q I rv h
 obtain ⟨d, kvs, rfl, hd, q⟩ := h
 obtain ⟨u, rfl, ru⟩ := vals1 rv
 cases (show u = Value.ref d from ru)
 exact GK I hd fun p s' hp I' => ⟨.ref p, _, I', rfl, q p hp⟩
def An : Sp := fun _ _ _ _ => False
theorem Bj {P : Program} {w : World} {K : Frag} {mg : MG} {base : Heap} {CX : CXT} {k : Nat} {f : Addr} {fd : FuncData} {ps : List Str} : aG P w K mg base CX k f fd ps An := ⟨fun _ _ _ _ h => h.elim, fun _ _ _ _ _ _ _ _ _ _ _ _ _ h => h.elim⟩
end L2
namespace L2
open PySem PySem.Spec PyProof.Rows
theorem aY {N P : List Str} {s : Scope} (a : s.kind = .function := by rfl) (b : s.isCoroutine = false := by rfl) (c : s.isGenerator = false := by rfl) (d : N.Nodup := by decide +kernel) (e : N.take P.length = P := by rfl) (f : ∀ x ∈ P, s.names.lookup x = some .local \/ s.names.lookup x = some .cell := by decide +kernel) (g : ∀ y ∈ s.names, y.2 ≠ .free := by decide +kernel) : aH N P s := ⟨a, b, c, d, e, f, g⟩
section
variable {P : Program} {w : World} {K : Frag} {mg : Str -> Option Value} {base : Heap} {C : Nat -> Addr} {f : Addr} {fd : FuncData}
theorem Fun.oq {x qual : Str} {st : Stmt} {f : Addr} {fd : FuncData} {N ps : List Str} {k : Nat} {sp : Sp} (F : Fun K x qual st f fd) (S : aH N ps (aD st))
 (hbody : ∀ (cdv : Value) (A : Around) (outer : List Env) (s : Shared) (H : Hp) (vs : List V) (Q : VK) (E : XK), aR k (A.deeper (envOfC qual (aD st) s.heap.objs.size f cdv)) -> sp vs H Q E -> ∃ t, PSs (Ar CX0 P w K mg base N qual (aD st) f cdv A outer s H E).nox (cU st) t /\ t { nx := fun _ H' => Q .non H', rt := Q } (start N vs) H)
 (len : ∀ vs H Q E, sp vs H Q E -> vs.length = ps.length := by intro vs H Q E h; repeat (first | (obtain ⟨rfl, _⟩ := h; rfl) | obtain ⟨_, h⟩ := h)) : aG P w K mg base CX0 (k + 1) f fd ps sp := F.ok S len hbody
end
end L2
namespace Mine
open PySem PySem.Spec PyProof.Rows L2
theorem Fj (zs : List Str) : (zs.map V.str).all mj = true := by
 rw [all_eq_true]; intro v hv; obtain ⟨z, _, rfl⟩ := mem_map.mp hv; rfl
theorem IK : (("." : Str)).length <= 1 := by decide +kernel
def top (i : Nat) : Stmt := pw_drawhouse_k41_rows_of_one_part.main.body.getD i (.Pass ⟨0, 0, 0, 0⟩)
def Ii : Stmt -> List Stmt
 | .ClassDef _ _ _ b _ _ _ _ _ _ _ => b
 | _ => []
abbrev sb (i j : Nat) : Stmt := (Ii (top i)).getD j (.Pass ⟨0, 0, 0, 0⟩)
abbrev mH : Stmt := top 11
abbrev mF : Stmt := top 12
abbrev lE : Stmt := top 13
abbrev kY : Stmt := top 15
abbrev jX : Stmt := top 16
abbrev ou : Stmt := top 26
abbrev lA : Stmt := top 32
abbrev mG : Stmt := top 28
abbrev jN : Stmt := top 30
abbrev lY : Stmt := top 31
abbrev jQ : Stmt := top 29
abbrev kh : Stmt := top 34
abbrev kj : Stmt := top 40
abbrev mV : Stmt := top 41
abbrev iJ : Stmt := top 42
abbrev iy : Stmt := sb 18 0
abbrev fB : Stmt := sb 19 0
abbrev iM : Stmt := sb 19 1
abbrev d8 : Stmt := sb 20 0
abbrev gC : Stmt := sb 20 1
abbrev jU : Stmt := sb 21 0
abbrev gQ : Stmt := sb 21 1
abbrev lC : Stmt := sb 22 0
abbrev gH : Stmt := sb 22 1
abbrev lG : Stmt := sb 23 0
abbrev gR : Stmt := sb 23 1
abbrev dY : Stmt := sb 24 0
abbrev cP : Stmt := sb 35 0
abbrev dC : Stmt := sb 35 1
abbrev fX : Stmt := sb 35 2
abbrev dB : Stmt := sb 35 3
abbrev eG : Stmt := sb 35 4
abbrev cW : Stmt := sb 35 5
abbrev gZ : Stmt := sb 35 6
abbrev eV : Stmt := sb 35 7
abbrev eE : Stmt := sb 35 8
abbrev cH : Stmt := sb 35 9
abbrev cG : Stmt := sb 35 10
abbrev cF : Stmt := sb 35 11
abbrev eX : Stmt := sb 35 12
abbrev dG : Stmt := sb 37 0
abbrev gB : Stmt := sb 37 1
abbrev fG : Stmt := sb 37 3
abbrev cO : Stmt := sb 37 4
abbrev bW : Stmt := sb 37 5
abbrev fP : Stmt := sb 37 6
abbrev fV : Stmt := sb 37 7
abbrev dU : Stmt := sb 37 8
abbrev mz : Stmt := sb 37 10
abbrev dq : Stmt := sb 43 0
abbrev jl : Stmt := sb 43 1
abbrev iB : Stmt := sb 43 2
abbrev gJ : Stmt := sb 43 3
abbrev dZ : Stmt := sb 45 0
abbrev gM : Stmt := sb 45 1
abbrev dX : Stmt := sb 45 2
abbrev mZ : Stmt := top 47
abbrev oG : Stmt := top 48
abbrev jr : Stmt := top 49
abbrev mC : Stmt := top 50
abbrev lB : Stmt := top 51
abbrev nu : Stmt := top 52
abbrev jR : Stmt := top 53
abbrev my : Stmt := top 54
abbrev ni : Stmt := top 55
abbrev jT : Stmt := top 56
abbrev Fv : Stmt := top 57
def Ep (ns : List Int) (k : Int) : Int := if k < (ns.length : Int) then Builtin.bitAnd (ns.getD k.toNat 0) (1 * 2 ^ (4400 : Int).toNat - 1) else 0
def Bq (K : Frag) : Sp := fun vs H Q _ => ∃ (a : Addr) (ns : List Int) (k : Int), vs = [.ref a, .int k] /\ SqL K H a (ns.map V.int) /\ 0 <= k /\ Pur (.int (Ep ns k)) H Q
section
variable {P : Program} {w : World} {K : Frag} {mg : MG} {base : Heap}
abbrev wy : List Str := ["_law_script", "_law_k"]
theorem Js : aH ["_law_script", "_law_k"] wy (aD mZ) := aY
theorem G3 {f : Addr} {fd : FuncData} (F : Fun K "_law_cell" "_law_cell" mZ f fd) (hlen : mg "len" = none) : aG P w K mg base CX0 1 f fd wy (Bq K) := by
 refine F.oq Js fun _ _ _ _ H _ Q E hr h => ?_
 ·obtain ⟨a, ns, k, rfl, hS, h0, q⟩ := h
  refine ⟨_, qm (Cm (aK FJ (pv 1) (bf bJ Z3 hlen boot_len (aj (pv 0) au)) (aN _))
    (mU (pB (aP Gh (bA bC (pv 0) (pv 1)) (aP pD (aP JT aB aB) aB)))) sW)
   (mU (pB aB)), ?_⟩
  refine ⟨_, rfl, _, rfl, a, _, rfl, .inl hS, _, _, rfl, rfl, _, rfl, ?_⟩
  rw [length_map]
  refine nG (fun hk => ?_) (fun hk => ?_)
  ·have hk2 : ns[k.toNat]? = some (ns.getD k.toNat 0) := by
    rw [List.getD_eq_getElem?_getD, getElem?_eq_getElem Z1]
    rfl
   have hk3 : (ns.map V.int)[k.toNat]? = some (V.int (ns.getD k.toNat 0)) := by rw [getElem?_map, hk2]; rfl
   have hat : atI (ns.map V.int) k = some (V.int (ns.getD k.toNat 0)) := by
    have := aZ hk3
    rwa [show ((k.toNat : Nat) : Int) = k from by omega] at this
   refine ⟨_, rfl, _, rfl, a, _, _, _, rfl, rfl, hS, hat, _, _, rfl, rfl, ⟨Z0, Z0, Z0⟩, _, _, rfl, rfl, _, _, rfl, rfl, ?_⟩
   have e : Ep ns k = Builtin.bitAnd (ns.getD k.toNat 0) (1 * 2 ^ (4400 : Int).toNat - 1) := if_pos hk
   have q' := q H (az.refl H)
   rw [e] at q'
   exact q'
  ·have e : Ep ns k = 0 := if_neg hk
   have q' := q H (az.refl H)
   rw [e] at q'
   exact q'
abbrev Cq : List Str := ["_law_cell_here", "_law_j"]
theorem La : aH ["_law_cell_here", "_law_j"] Cq (aD oG) := aY
theorem JQ {f : Addr} {fd : FuncData} (F : Fun K "_law_sub" "_law_sub" oG f fd) : aG P w K mg base CX0 1 f fd Cq Jg := by
 refine F.oq La fun _ _ _ _ H _ Q E hr h => ?_
 ·obtain ⟨c, j, rfl, h0, h1, q⟩ := h
  refine ⟨_, qm (Cm (mD (aK cN (aP fL (pv 0) aB) aB (aN _)) (kW (aK tX (aP qR (pv 0) (aP cI (aP fM aB (pv 1)) aB)) aB (aN _)))).pt
    (mU (pB (aP FP (aP qR (pv 0) (aP fM aB (pv 1))) aB))) sW)
   (mU (pB (aP fM (aP cI (aP kI (aP kI (pv 0) aB) (aP cI (pv 1) aB)) (aP fM aB (pv 1))) aB))), ?_⟩
  have q' := q H (az.refl H)
  have tail : sub c j = subB c j -> HD (tOp (rI DW fun i j => .int (i * j)) (tOp (rI0 fun i j => .int (i + j)) (tOp (rI JL fun i j => .int (i / j)) (tOp (rI JL fun i j => .int (i / j)) (wU 0) (tC (.int 2))) (tOp (rI0 fun i j => .int (i + j)) (wU 1) (tC (.int 1)))) (tOp (rI DW fun i j => .int (i * j)) (tC (.int 104729)) (wU 1))) (tC (.int 2)))
    { nx := fun _ H' => Q .non H', rt := Q } (start ["_law_cell_here", "_law_j"] [V.int c, V.int j]) H := fun e => by
   rw [e] at q'
   exact ⟨_, rfl, _, _, rfl, rfl, ⟨Z0, Z0⟩, _, rfl, _, _, rfl, rfl, _, _, rfl, rfl, ⟨Z1, Z1⟩, _, rfl, _, _, rfl, rfl, .inl ⟨Z0, Z0⟩, _, _, rfl, rfl, _, _, rfl, rfl, .inr ⟨Z0, Z0⟩, q'⟩
  refine ⟨_, rfl, _, _, rfl, rfl, (by show (0 : Int) < 2; decide), rfl, _, rfl, ?_⟩
  refine zb (fun hA => ?_) (fun hA => ?_)
  ·refine ⟨_, rfl, _, rfl, _, _, rfl, rfl, .inl ⟨Z0, Z0⟩, _, _, rfl, rfl, _, _, rfl, rfl, (by show (0 : Int) <= 480 * j + 400; omega), _, _, rfl, rfl, _, rfl, ?_⟩
   refine nG (fun hB => ?_) (fun hB => ?_)
   ·have e : sub c j = KH c j := if_pos ⟨hA, hB⟩
    rw [e] at q'
    exact ⟨_, rfl, _, rfl, _, _, rfl, rfl, .inl ⟨Z0, Z0⟩, _, _, rfl, rfl, (by show (0 : Int) <= 480 * j; omega), _, _, rfl, rfl, q'⟩
   ·exact tail (if_neg fun z => hB z.2)
  ·refine iR ?_
   exact tail (if_neg fun z => hA z.1)
abbrev pO : List Str := ["_law_cell_here", "_law_k", "_law_many"]
theorem qL : aH ["_law_cell_here", "_law_k", "_law_many", "_law_great", "_law_by", "_law_other", "_law_one"] pO (aD mC) := aY
theorem sZ {f : Addr} {fd : FuncData} (F : Fun K "_law_pick" "_law_pick" mC f fd) : aG P w K mg base CX0 1 f fd pO tY := by
 refine F.oq qL fun _ _ _ _ H _ Q E hr h => ?_
 ·obtain ⟨c, k, m, rfl, h0, h1, hm, q⟩ := h
  refine ⟨_, QSs.h (aq (bz (PW.pt (mD (aK cN (aP fL (pv 0) aB) aB (aN _)) (kW (aK tX (aP qR (pv 0) aB) aB (aN _))))) (aC (aM (aP fL (aP Gh (aP qR (pv 0) (aP cI aB (aP fM aB (pv 1)))) aB) (pv 2)))) aU)
   (aq (aO (i := 3) qL.nd rfl (Or.inl rfl) aB)
   (aq (aO (i := 4) qL.nd rfl (Or.inl rfl) (DY (cD aB (cD aB (cD aB (cD aB (cD aB (cD aB (cD aB (cD aB Ej))))))))))
   (aq (aO (i := 5) qL.nd rfl (Or.inl rfl) (b8 (aj aB (aj aB (aj aB (aj aB (aj aB au)))))))
   (aq (aO (i := 6) qL.nd rfl (Or.inl rfl) (aP fL (aP fM (aP fM (aP cI (aP fL (aP kI (pv 0) aB) (pv 3)) aB) (bA bC (pv 4) (aP fL (pv 1) aB))) (bA bC (pv 5) (aP kI (pv 1) aB))) (pv 3)))
   (aq (aO (i := 6) qL.nd rfl (Or.inl rfl) (aP fL (aP fM (pv 6) (pv 6)) aB))
   (aC (aM (aP fL (aP kI (aP fL (aP fM (aP cI (aP cI (pv 6) (pv 1)) aB) (aP cI (aP kI (pv 6) aB) aB)) aB) aB) (pv 2)))))))))), ?_⟩
  obtain ⟨t1, t2, t3⟩ := Hk (k := k % 8) Z1 Z1
  obtain ⟨u1, u2, u3⟩ := HQ (k := k / 8) Z1 Z1
  have a8 : atI (ql.map V.int) (k % 8) = some (V.int (ql.getD (k % 8).toNat 0)) := by
   have := aZ (xs := ql.map V.int) (j := (k % 8).toNat) (by rw [getElem?_map, t1]; rfl)
   rwa [show (((k % 8).toNat : Nat) : Int) = k % 8 from by omega] at this
  have a5 : atI (qz.map V.int) (k / 8) = some (V.int (qz.getD (k / 8).toNat 0)) := by
   have := aZ (xs := qz.map V.int) (j := (k / 8).toNat) (by rw [getElem?_map, u1]; rfl)
   rwa [show (((k / 8).toNat : Nat) : Int) = k / 8 from by omega] at this
  have g1 := Hh c k
  have g2 := Il c k
  have g3 := Hn c k
  have g4 := Ig c k
  have ms := Dk t2 t3 u2 u3
  refine ⟨_, rfl, _, _, rfl, rfl, (by show (0 : Int) < 2; decide), rfl, _, rfl, ?_⟩
  refine zb (fun hA => ?_) (fun hA => ?_)
  ·refine ⟨_, rfl, _, _, rfl, rfl, (by show (0 : Int) <= 400; decide), _, _, rfl, rfl, _, rfl, ?_⟩
   refine nG (fun hB => ?_) (fun hB => ?_)
   ·have e : pick c k m = Jj c k m := if_pos ⟨hA, hB⟩
    have q' := q H (az.refl H)
    rw [e] at q'
    exact ⟨_, rfl, _, rfl, _, _, rfl, rfl, .inl ⟨Z0, Z0⟩, _, _, rfl, rfl, _, _, rfl, rfl, (by show (0 : Int) <= 1 + 10 * k; omega), _, _, rfl, rfl, _, rfl, _, _, rfl, rfl, hm, q'⟩
   ·have e : pick c k m = Et c k m := if_neg fun z => hB z.2
    refine ⟨by show 8 <= sizeLine; decide, fun p hp => ⟨by show 5 <= sizeLine; decide, fun p2 hp2 => ?_⟩⟩
    refine ⟨_, rfl, _, _, rfl, rfl, ⟨Z0, Z0⟩, _, rfl, _, _, rfl, rfl, (by show (0 : Int) < 2305843009213693951; decide), _, _, rfl, rfl, _, rfl, _, rfl, _, _, rfl, rfl, (by show (0 : Int) < 8; decide), p, ql.map V.int, _, _, rfl, rfl, SqL.of ((az.new hp2) _ _ ao), a8, _, _, rfl, rfl, .inr ⟨Z1, Z1⟩, _, rfl, _, rfl, _, _, rfl, rfl, ⟨Z0, Z0⟩, p2, qz.map V.int, _, _, rfl, rfl, SqL.of ao, a5, _, _, rfl, rfl, .inr ⟨Z1, Z1⟩, _, rfl, _, _, rfl, rfl, (by show (0 : Int) < 2305843009213693951; decide), ?_⟩
    rw [Int.mul_assoc]
    refine ⟨_, rfl, _, rfl, _, _, rfl, rfl, .inl ⟨(by show -(2 ^ 64) < yf c k; omega), (by show yf c k < 2 ^ 64; omega)⟩, _, _, rfl, rfl, (by show (0 : Int) < 1000000000039; decide), ?_⟩
    refine ⟨_, rfl, _, rfl, _, _, rfl, rfl, _, _, rfl, rfl, _, rfl, _, _, rfl, rfl, ⟨Z0, Z0⟩, _, _, rfl, rfl, _, _, rfl, rfl, .inl ⟨(by show -(2 ^ 64) < yI c k + k + 1; omega), (by show yI c k + k + 1 < 2 ^ 64; omega)⟩, _, _, rfl, rfl, (by show (0 : Int) < 67280421310721; decide), _, _, rfl, rfl, ⟨Z0, Z0⟩, _, rfl, _, _, rfl, rfl, hm, ?_⟩
    rw [e] at q
    exact q _ ((az.new hp).put hp2)
  ·refine iR ?_
   have e : pick c k m = Et c k m := if_neg fun z => hA z.1
   refine ⟨by show 8 <= sizeLine; decide, fun p hp => ⟨by show 5 <= sizeLine; decide, fun p2 hp2 => ?_⟩⟩
   refine ⟨_, rfl, _, _, rfl, rfl, ⟨Z0, Z0⟩, _, rfl, _, _, rfl, rfl, (by show (0 : Int) < 2305843009213693951; decide), _, _, rfl, rfl, _, rfl, _, rfl, _, _, rfl, rfl, (by show (0 : Int) < 8; decide), p, ql.map V.int, _, _, rfl, rfl, SqL.of ((az.new hp2) _ _ ao), a8, _, _, rfl, rfl, .inr ⟨Z1, Z1⟩, _, rfl, _, rfl, _, _, rfl, rfl, ⟨Z0, Z0⟩, p2, qz.map V.int, _, _, rfl, rfl, SqL.of ao, a5, _, _, rfl, rfl, .inr ⟨Z1, Z1⟩, _, rfl, _, _, rfl, rfl, (by show (0 : Int) < 2305843009213693951; decide), ?_⟩
   rw [Int.mul_assoc]
   refine ⟨_, rfl, _, rfl, _, _, rfl, rfl, .inl ⟨(by show -(2 ^ 64) < yf c k; omega), (by show yf c k < 2 ^ 64; omega)⟩, _, _, rfl, rfl, (by show (0 : Int) < 1000000000039; decide), ?_⟩
   refine ⟨_, rfl, _, rfl, _, _, rfl, rfl, _, _, rfl, rfl, _, rfl, _, _, rfl, rfl, ⟨Z0, Z0⟩, _, _, rfl, rfl, _, _, rfl, rfl, .inl ⟨(by show -(2 ^ 64) < yI c k + k + 1; omega), (by show yI c k + k + 1 < 2 ^ 64; omega)⟩, _, _, rfl, rfl, (by show (0 : Int) < 67280421310721; decide), _, _, rfl, rfl, ⟨Z0, Z0⟩, _, rfl, _, _, rfl, rfl, hm, ?_⟩
   rw [e] at q
   exact q _ ((az.new hp).put hp2)
end
section
variable {P : Program} {w : World} {K : Frag} {mg : MG} {base : Heap}
abbrev qG : List Str := ["_law_cell_here", "_law_far"]
theorem Fd : aH ["_law_cell_here", "_law_far"] qG (aD jr) := aY
theorem CW {f : Addr} {fd : FuncData} (F : Fun K "_law_number" "_law_number" jr f fd) : aG P w K mg base CX0 1 f fd qG yz := by
 refine F.oq Fd fun _ _ _ _ H _ Q E hr h => ?_
 ·obtain ⟨c, far, rfl, h0, q⟩ := h
  refine ⟨_, qm (Cm (mD (aK cN (aP fL (pv 0) aB) aB (aN _)) (kW (aK tX (aP qR (pv 0) aB) aB (aN _)))).pt
    (mU (pB (aP fL (aP qR (pv 0) aB) (pv 1)))) sW)
   (mU (pB (aP fL (aP kI (pv 0) aB) (pv 1)))), ?_⟩
  have q' := q H (az.refl H)
  refine ⟨_, rfl, _, _, rfl, rfl, (by show (0 : Int) < 2; decide), rfl, _, rfl, ?_⟩
  refine zb (fun hA => ?_) (fun hA => ?_)
  ·refine ⟨_, rfl, _, _, rfl, rfl, (by show (0 : Int) <= 400; decide), _, _, rfl, rfl, _, rfl, ?_⟩
   refine nG (fun hB => ?_) (fun hB => ?_)
   ·have e : number c far = c / 2 ^ (400 : Int).toNat % far := if_pos ⟨hA, hB⟩
    rw [e] at q'
    exact ⟨_, rfl, _, _, rfl, rfl, (by show (0 : Int) <= 400; decide), _, rfl, _, _, rfl, rfl, h0, q'⟩
   ·have e : number c far = c / 2 % far := if_neg fun z => hB z.2
    rw [e] at q'
    exact ⟨_, rfl, _, _, rfl, rfl, ⟨Z0, Z0⟩, _, rfl, _, _, rfl, rfl, h0, q'⟩
  ·refine iR ?_
   have e : number c far = c / 2 % far := if_neg fun z => hA z.1
   rw [e] at q'
   exact ⟨_, rfl, _, _, rfl, rfl, ⟨Z0, Z0⟩, _, rfl, _, _, rfl, rfl, h0, q'⟩
end
abbrev m8 : List Str := ["thing"]
theorem zO : aH ["thing"] m8 (aD mH) := aY
abbrev kE : List Str := ["address"]
theorem rN : aH ["address", "names"] kE (aD mF) := aY
abbrev iZ : List Str := ["address"]
theorem zp : aH ["address"] iZ (aD lE) := aY
abbrev jZ : List Str := ["kind", "thing"]
theorem rH : aH ["kind", "thing", "path"] jZ (aD kY) := aY
abbrev iV : List Str := ["terms"]
theorem iQ : aH ["terms", "shown", "sign", "kind", "thing"] iV (aD jX) := aY
abbrev eU : List Str := ["value"]
theorem Dv : aH ["value"] eU (aD ou) := aY
abbrev kO : List Str := ["stand", "value"]
theorem yR : aH ["stand", "value"] kO (aD lA) := aY
abbrev jK : List Str := ["stand", "address", "path"]
theorem eO : aH ["stand", "address", "path", "value", "whose", "name", "step"] jK (aD mG) := aY
abbrev ik : List Str := ["stand", "address", "term"]
theorem bV : aH ["stand", "address", "term", "kind", "thing", "value", "whose", "name"] ik (aD jN) := aY
abbrev jA : List Str := ["stand", "address", "terms"]
theorem bU : aH ["stand", "address", "terms", "total", "term", "value", "whose", "name"] jA (aD lY) := aY
abbrev iU : List Str := ["stand", "deed"]
theorem jc : aH ["stand", "deed", "address", "name", "part", "value"] iU (aD jQ) := aY
abbrev jW : List Str := ["stand", "address", "row"]
theorem yd : aH ["stand", "address", "row"] jW (aD kh) := aY
abbrev jV : List Str := ["part", "addresses"]
theorem rF : aH ["part", "addresses", "parent"] jV (aD kj) := aY
abbrev mW : List Str := ["part", "addresses"]
theorem zN : aH ["part", "addresses"] mW (aD mV) := aY
abbrev iK : List Str := ["parts"]
theorem iG : aH ["parts", "addresses", "at", "part"] iK (aD iJ) := aY
abbrev mQ : List Str := ["self"]
theorem xW : aH ["self"] mQ (aD iy) := aY
abbrev lJ : List Str := ["self", "name", "terms"]
theorem zy : aH ["self", "name", "terms"] lJ (aD fB) := aY
abbrev mJ : List Str := ["self"]
theorem wj : aH ["self"] mJ (aD iM) := aY
abbrev jx : List Str := ["self", "name", "terms"]
theorem wG : aH ["self", "name", "terms"] jx (aD d8) := aY
abbrev lO : List Str := ["self"]
theorem uU : aH ["self"] lO (aD gC) := aY
abbrev wC : List Str := ["self", "address", "name"]
abbrev lM : List Str := ["self"]
theorem uO : aH ["self"] lM (aD gQ) := aY
abbrev xF : List Str := ["self", "address", "name"]
abbrev lQ : List Str := ["self"]
theorem uW : aH ["self"] lQ (aD gH) := aY
abbrev xn : List Str := ["self", "word", "address", "name"]
abbrev lN : List Str := ["self"]
theorem uQ : aH ["self"] lN (aD gR) := aY
abbrev jt : List Str := ["self", "terms"]
theorem wN : aH ["self", "terms"] jt (aD dY) := aY
abbrev dO : List Str := ["self", "house"]
theorem rP : aH ["self", "house"] dO (aD cP) := aY
abbrev d9 : List Str := ["self"]
theorem gw : aH ["self", "other", "address"] d9 (aD dC) := aY
abbrev gA : List Str := ["self"]
theorem uC : aH ["self"] gA (aD fX) := aY
abbrev cR : List Str := ["self"]
theorem qu : aH ["self"] cR (aD dB) := aY
abbrev fJ : List Str := ["self", "address"]
theorem qJ : aH ["self", "address"] fJ (aD eG) := aY
abbrev dI : List Str := ["self", "address"]
theorem pZ : aH ["self", "address"] dI (aD cW) := aY
abbrev oM : List Str := ["self"]
abbrev bK : List Str := ["self", "event"]
theorem rW : aH ["self", "event"] bK (aD eV) := aY
abbrev dm : List Str := ["self", "address"]
theorem qU : aH ["self", "address"] dm (aD eE) := aY
abbrev cT : List Str := ["self", "address"]
theorem jk : aH ["self", "address", "prefix"] cT (aD cH) := aY
abbrev cV : List Str := ["self", "address"]
theorem fK : aH ["self", "address", "at", "row"] cV (aD cG) := aY
abbrev cX : List Str := ["self", "address", "name"]
theorem jj : aH ["self", "address", "name", "unfilled", "value"] cX (aD cF) := aY
abbrev fU : List Str := ["self", "address", "name", "value"]
theorem sJ : aH ["self", "address", "name", "value"] fU (aD eX) := aY
abbrev iH : List Str := ["self", "house"]
theorem uT : aH ["self", "house"] iH (aD dG) := aY
abbrev iC : List Str := ["self", "address"]
theorem o5 : aH ["self", "address", "trial"] iC (aD gB) := aY
abbrev dJ : List Str := ["self"]
theorem rT : aH ["self"] dJ (aD fG) := aY
abbrev cC : List Str := ["self", "address"]
theorem pW : aH ["self", "address"] cC (aD cO) := aY
abbrev bT : List Str := ["self", "address"]
theorem nZ : aH ["self", "address"] bT (aD bW) := aY
abbrev eN : List Str := ["self", "address"]
theorem tG : aH ["self", "address"] eN (aD fP) := aY
abbrev gF : List Str := ["self", "address", "name"]
theorem jE : aH ["self", "address", "name", "one", "value"] gF (aD fV) := aY
abbrev eY : List Str := ["self", "address"]
theorem qO : aH ["self", "address"] eY (aD dU) := aY
abbrev rQ : List Str := ["self"]
abbrev iD : List Str := ["self", "parts"]
theorem uP : aH ["self", "parts"] iD (aD dq) := aY
abbrev pI : List Str := ["self"]
abbrev jq : List Str := ["self", "address"]
theorem xK : aH ["self", "address"] jq (aD iB) := aY
abbrev dR : List Str := ["self", "address"]
theorem o8 : aH ["self", "address", "part"] dR (aD gJ) := aY
abbrev jo : List Str := ["self", "address", "rows"]
theorem wV : aH ["self", "address", "rows"] jo (aD dZ) := aY
abbrev iz : List Str := ["self"]
theorem o9 : aH ["self", "names"] iz (aD gM) := aY
abbrev fW : List Str := ["self", "name"]
theorem jd : aH ["self", "name", "at", "row"] fW (aD dX) := aY
abbrev sX : List Str := ["_law_cell_here", "_law_many"]
theorem fQ : aH ["_law_cell_here", "_law_many", "_law_letters", "_law_size", "_law_one", "_law_two", "_law_base", "_law_odd", "_law_heads", "_law_names_here", "_law_n", "_law_word", "_law_name"] sX (aD lB) := aY
abbrev wQ : List Str := ["_law_known", "_law_sort", "_law_cell_here", "_law_k"]
theorem Ed : aH ["_law_known", "_law_sort", "_law_cell_here", "_law_k", "_law_names_here"] wQ (aD nu) := aY
abbrev tE : List Str := ["_law_known", "_law_cell_here", "_law_calls"]
theorem kZ : aH ["_law_known", "_law_cell_here", "_law_calls", "_law_terms_here", "_law_k", "_law_one", "_law_sign", "_law_name", "_law_deed", "_law_way"] tE (aD jR) := aY
abbrev tH : List Str := ["_law_known", "_law_terms_here"]
theorem ie : aH ["_law_known", "_law_terms_here", "_law_total", "_law_sign", "_law_sort", "_law_thing", "_law_value"] tH (aD my) := aY
abbrev xq : List Str := ["_law_cells", "_law_names_here", "_law_address"]
theorem nU : aH ["_law_cells", "_law_names_here", "_law_address", "_law_rows", "_law_known", "_law_due", "_law_k", "_law_way", "_law_terms_here", "_law_needs"] xq (aD ni) := aY
abbrev tD : List Str := ["_law_shelf", "_law_address", "_law_due"]
theorem qe : aH ["_law_shelf", "_law_address", "_law_due", "_law_found", "_law_name", "_law_value", "_law_told"] tD (aD jT) := aY
abbrev Jm : List Str := ["_law_script"]
theorem jh : aH ["_law_script", "_law_names_here", "_law_shelves", "_law_k", "_law_cells", "_law_part_here", "_law_due", "_law_parts", "_law_shelf", "_law_address", "_law_log", "_law_places"] Jm (aD Fv) := aY
section
variable {P : Program} {w : World} {K : Frag} {mg : MG} {base : Heap}
def zP : Sp := fun vs H Q _ => ∃ (l : Addr) (ts : List Trm), vs = [.ref l] /\ fO H l ts /\ lL ts /\ Pur (.str (textOf ts)) H Q
def Bp (K : Frag) : Sp := fun vs H Q _ => ∃ (a : Addr) (ns : List Int), vs = [.ref a] /\ SqL K H a (ns.map V.int) /\ ns.length <= 63 /\ ∀ H', Q (.bl true) H'
theorem Ip {α : Type} {xs : List α} {c k : Int} (h : 0 < xs.length) : ∃ v, atI xs (pick c k (xs.length : Int)) = some v /\ v ∈ xs := by
 have h1 := jm c k (m := (xs.length : Int)) Z1
 have h2 := jn c k (m := (xs.length : Int)) Z1
 have hl : (pick c k (xs.length : Int)).toNat < xs.length := by omega
 refine ⟨xs[(pick c k (xs.length : Int)).toNat], ?_, getElem_mem hl⟩
 have := aZ (getElem?_eq_getElem hl)
 rwa [show (((pick c k (xs.length : Int)).toNat : Nat) : Int) = pick c k (xs.length : Int) from by omega] at this
theorem Di (c : Int) {far : Int} (h : 0 < far) : 0 <= number c far := by unfold number; split <;> exact emod_nonneg _ Z1
theorem CT (c : Int) {far : Int} (h : 0 < far) : number c far < far := by unfold number; split <;> exact emod_lt_of_pos _ h
theorem sU : 1000 <= sizeLine := by decide
def wu : Sp := fun vs H Q _ => ∃ (x : V) (th : Thg), vs = [.str (kindOf th), x] /\ GF H x th /\ Ax th /\ Pur (.str (wordOf th)) H Q
theorem PQ {c : Bool} {x y : V} {σ : L2.St} {H : Hp} {Q : VK} (h : Q (if c = true then x else y) H) : if c = true then tC x σ H Q else tC y σ H Q := by cases c <;> exact h
theorem J4 (s : Int) : (if decide (V.int s = V.int 1) = true then V.str "+" else V.str "-") = V.str (sgw s) := by
 unfold sgw
 by_cases h : s = 1
 ·rw [decide_eq_true (congrArg V.int h), if_pos h]; rfl
 ·rw [decide_eq_false (fun e => h (V.int.inj e)), if_neg h]; rfl
theorem CZ (ts : List Trm) : Txt.join (" " : Str) (wordsOf ts) = textOf ts := by
 rw [blank_eq]
 exact StrLaws.glued_eq_join _ _
theorem Ei : ((" " : Str)).length = 1 := by decide +kernel
def wW (C : Nat -> Addr) (i : Nat) : Sp := fun vs H Q _ => ∃ (x dx : Addr) (r : bF) (d : Addr), vs = [.ref x, .str r.nm, .ref d] /\ r.so = i /\ H x = some (.ins (C i) dx []) /\ fO H d r.ts /\ r.ts.length <= 10 /\
 ∀ l H', H l = none -> SameBut x H H' -> gY C H' x l r -> Q .non H'
def Ef (C : Nat -> Addr) : Sp := fun vs H Q _ => ∃ (x dx : Addr) (r : bF) (d : Addr), vs = [.ref x, .ref d] /\ r.so = 5 /\ H x = some (.ins (C 5) dx []) /\ fO H d r.ts /\ r.ts.length <= 10 /\
 ∀ l H', H l = none -> SameBut x H H' -> gY C H' x l r -> Q .non H'
def Ek : Sp := fun vs H Q _ => ∃ v : V, vs = [v] /\ Pur (.str "") H Q
def spB (C : Nat -> Addr) (i : Nat) : Sp := fun vs H Q _ => ∃ (a l : Addr) (r : bF), vs = [.ref a] /\ r.so = i /\ gY C H a l r /\ Pur (.str r.nm) H Q
structure Mm (K : Frag) (C : Nat -> Addr) : Prop where
 c : ∀ i, i <= 6 -> RCl K (C i)
 kit : ∀ i j, i <= 6 -> j <= 6 -> kitOne K (.ref (C i)) (.ref (C j)) = some (Ds i j)
 nn : ∀ i, i <= 6 -> bZ K (C i) "name"
 nt : ∀ i, i <= 6 -> bZ K (C i) "terms"
 na : ∀ i, i <= 6 -> bZ K (C i) "address"
 nw : ∀ i, i <= 6 -> bZ K (C i) "word"
theorem Br {z : Str} (h : (decide (1 <= z.length) && decide (z.length <= 8) && z.cps.toList.all fun n => decide (97 <= n) && decide (n <= 122)) = true) : eZ z := by
 simp only [and_eq_true, decide_eq_true_eq, all_eq_true] at h
 exact ⟨h.1.1, h.1.2, fun n hn => h.2 n hn⟩
theorem six {n : Nat} (h : n <= 5) : n = 0 \/ n = 1 \/ n = 2 \/ n = 3 \/ n = 4 \/ n = 5 := by
 cases n with
 | zero => exact .inl rfl
 | succ n => cases n with
  | zero => exact .inr (.inl rfl)
  | succ n => cases n with
   | zero => exact .inr (.inr (.inl rfl))
   | succ n => cases n with
    | zero => exact .inr (.inr (.inr (.inl rfl)))
    | succ n => cases n with
     | zero => exact .inr (.inr (.inr (.inr (.inl rfl))))
     | succ n => cases n with
      | zero => exact .inr (.inr (.inr (.inr (.inr rfl))))
      | succ n => exact absurd h Z1
theorem bQ {H : Hp} {C x dx : Addr} (hx : H x = none) (hdx : H dx = none) : az H (upd (upd H dx (.own x)) x (.ins C dx [])) := fun b o e => by
 rw [aA (ak e hx), aA (ak e hdx)]
 exact e
structure PP (K : Frag) (C : Addr) : Prop where
 cl : RCl K C
 na : bZ K C "address"
 nr : bZ K C "rows"
 kit : kitOne K (.ref C) (.ref C) = some true
structure je (rs : List bF) : Prop where
 hi : rs.length <= 12
 ok : ∀ r ∈ rs, GoodR r
theorem je.at {rs : List bF} (g : je rs) {i : Nat} {r : bF} (h : rs[i]? = some r) : GoodR r := g.ok r (mem_of_getElem? h)
def wZ (C : Nat -> Addr) (H : Hp) (l : Addr) (rs : List bF) : Prop := ∃ xs : List V, H l = some (.lst xs) /\ xs.length = rs.length /\ ∀ (i : Nat) r, rs[i]? = some r -> ∃ a t, xs[i]? = some (.ref a) /\ gY C H a t r
theorem wZ.same {C : Nat -> Addr} {H H' : Hp} {l : Addr} {rs : List bF} (h : wZ C H l rs) (s : az H H') : wZ C H' l rs := by
 obtain ⟨xs, hl, hn, hx⟩ := h
 refine ⟨xs, s _ _ hl, hn, fun i r e => ?_⟩
 obtain ⟨a, t, e2, ra⟩ := hx i r e
 exact ⟨a, t, e2, ra.same s⟩
def gO (C : Nat -> Addr) (H : Hp) (p : Addr) (ad : Str) (l : Addr) (rs : List bF) : Prop := ∃ dx fs, H p = some (.ins (C 7) dx fs) /\ fs.lookup ("address" : Str) = some (.str ad) /\ fs.lookup ("rows" : Str) = some (.ref l) /\
 fs.lookup ("bound" : Str) = none /\ fs.lookup ("place_of" : Str) = none /\ fs.lookup ("text" : Str) = none /\ wZ C H l rs
theorem gO.same {C : Nat -> Addr} {H H' : Hp} {p : Addr} {ad : Str} {l : Addr} {rs : List bF} (h : gO C H p ad l rs) (s : az H H') : gO C H' p ad l rs := by
 obtain ⟨dx, fs, e, a1, a2, a3, a4, a5, r⟩ := h
 exact ⟨dx, fs, s _ _ e, a1, a2, a3, a4, a5, r.same s⟩
def isE (v : V) : Bool := !decide (v = .str "")
def rB (rs : List bF) : List V := (rs.map fun r => V.str r.nm).filter isE
def Bv (C : Nat -> Addr) : Sp := fun vs H Q _ => ∃ (p : Addr) (ad : Str) (l : Addr) (rs : List bF), vs = [.ref p] /\ gO C H p ad l rs /\ je rs /\ ∀ b H', H b = none -> az H H' -> H' b = some (.lst (rB rs)) -> Q (.ref b) H'
theorem Ae {rs : List bF} {v : V} (h : v ∈ rB rs) : ∃ r ∈ rs, v = .str r.nm /\ r.nm ≠ "" := by
 obtain ⟨h1, h2⟩ := mem_filter.mp h
 obtain ⟨r, hr, rfl⟩ := mem_map.mp h1
 refine ⟨r, hr, rfl, fun e => ?_⟩
 rw [e] at h2
 exact absurd h2 Z4
theorem Eh {x : Str} {xs : List V} (h : ∀ v ∈ xs, ∃ z, v = .str z /\ z ≠ x) : inV (.str x) xs = false := by
 unfold inV
 rw [List.any_eq_false]
 intro v hv k
 obtain ⟨z, rfl, hz⟩ := h v hv
 exact hz (by simpa [eqV] using k)
structure Oh (K : Frag) (C : Addr) : Prop where
 cl : RCl K C
 nt : bZ K C "told"
structure gh where
 ad : List Str
 rs : List bF
def adS (ps : List gh) : List Str := ps.map fun p => dotted p.ad
structure Jf (p : gh) : Prop where
 ad : oY p.ad
 rs : je p.rs
def qj (C : Nat -> Addr) (H : Hp) (l : Addr) (ps : List gh) : Prop := ∃ xs : List V, H l = some (.lst xs) /\ xs.length = ps.length /\ ∀ (i : Nat) p, ps[i]? = some p -> ∃ a lr, xs[i]? = some (.ref a) /\ gO C H a (dotted p.ad) lr p.rs
theorem qj.same {C : Nat -> Addr} {H H' : Hp} {l : Addr} {ps : List gh} (h : qj C H l ps) (s : az H H') : qj C H' l ps := by
 obtain ⟨xs, hl, hn, hx⟩ := h
 refine ⟨xs, s _ _ hl, hn, fun i r e => ?_⟩
 obtain ⟨a, t, e2, ra⟩ := hx i r e
 exact ⟨a, t, e2, ra.same s⟩
structure fH (ps : List gh) : Prop where
 hi : ps.length <= 12
 ok : ∀ p ∈ ps, Jf p
 nd : (adS ps).Nodup
 up : ∀ p ∈ ps, p.ad.dropLast = [] \/ dotted p.ad.dropLast ∈ adS ps
 cl : ∀ p ∈ ps, ∀ r ∈ p.rs, r.nm ≠ "" -> dotted p.ad ++ "." ++ r.nm ∉ adS ps
theorem fH.at {ps : List gh} (g : fH ps) {i : Nat} {p : gh} (h : ps[i]? = some p) : Jf p := g.ok p (mem_of_getElem? h)
def cQ (C : Nat -> Addr) (H : Hp) (h l : Addr) (ps : List gh) : Prop := ∃ dx fs, H h = some (.ins (C 8) dx fs) /\ fs.lookup ("told" : Str) = some (.ref l) /\ fs.lookup ("addresses" : Str) = none /\ fs.lookup ("has" : Str) = none /\ fs.lookup ("part" : Str) = none /\ qj C H l ps
theorem cQ.same {C : Nat -> Addr} {H H' : Hp} {h l : Addr} {ps : List gh} (x : cQ C H h l ps) (s : az H H') : cQ C H' h l ps := by
 obtain ⟨dx, fs, e, a1, a2, a3, a4, r⟩ := x
 exact ⟨dx, fs, s _ _ e, a1, a2, a3, a4, r.same s⟩
def rY (ys : List Str) : Str := if ys.dropLast = [] then "" else dotted ys.dropLast
theorem dF (b : Str) : dotted [b] = b := by rw [iW]; rfl
theorem J6 {ys : List Str} (g : oY ys) : (Txt.rpartition (dotted ys) ("." : Str)).1 = rY ys := by
 unfold rY
 obtain ⟨xs, b, rfl⟩ : ∃ xs b, ys = xs ++ [b] := ⟨ys.dropLast, ys.getLast g.lo, (List.dropLast_concat_getLast g.lo).symm⟩
 rw [List.dropLast_concat]
 have hb : eZ b := g.nm b Z2
 by_cases h : xs = []
 ·subst h
  rw [if_pos rfl, List.nil_append, dF, Du b hb]
  rfl
 ·rw [if_neg h, Aj xs b h hb]
def um : Sp := fun vs H Q _ => ∃ ys : List Str, vs = [.str (dotted ys)] /\ oY ys /\ Pur (.str (rY ys)) H Q
def yq (C : Nat -> Addr) : Sp := fun vs H Q _ => ∃ (p l la : Addr) (ys zs : List Str) (rs : List bF), vs = [.ref p, .ref la] /\ gO C H p (dotted ys) l rs /\ oY ys /\ H la = some (.lst (zs.map V.str)) /\ (ys.dropLast = [] \/ dotted ys.dropLast ∈ zs) /\ Pur (.bl false) H Q
def Cw (C : Nat -> Addr) : Sp := fun vs H Q _ => ∃ (p l la : Addr) (ys zs : List Str) (rs : List bF), vs = [.ref p, .ref la] /\ gO C H p (dotted ys) l rs /\ oY ys /\ je rs /\ H la = some (.lst (zs.map V.str)) /\ (∀ r ∈ rs, r.nm ≠ "" -> dotted ys ++ "." ++ r.nm ∉ zs) /\ Pur (.bl false) H Q
def Bo (C : Nat -> Addr) : Sp := fun vs H Q _ => ∃ (l : Addr) (ps : List gh), vs = [.ref l] /\ qj C H l ps /\ fH ps /\ Pur .non H Q
def Eg (C : Nat -> Addr) (H : Hp) (xs : List V) (ps : List gh) : Prop := xs.length = ps.length /\ ∀ (i : Nat) p, ps[i]? = some p -> ∃ a lr, xs[i]? = some (.ref a) /\ gO C H a (dotted p.ad) lr p.rs
def oE (C : Nat -> Addr) (H : Hp) (h l : Addr) : Prop := ∃ dx fs, H h = some (.ins (C 8) dx fs) /\ fs.lookup ("told" : Str) = some (.ref l) /\ fs.lookup ("addresses" : Str) = none /\ fs.lookup ("has" : Str) = none /\ fs.lookup ("part" : Str) = none
theorem Ac {C : Nat -> Addr} {H : Hp} {h l : Addr} {xs : List V} {ps : List gh} (hd : oE C H h l) (hl : H l = some (.lst xs)) (px : Eg C H xs ps) : cQ C H h l ps := by
 obtain ⟨dx, fs, e, a1, a2, a3, a4⟩ := hd
 exact ⟨dx, fs, e, a1, a2, a3, a4, xs, hl, px.1, px.2⟩
theorem oE.same {C : Nat -> Addr} {H H' : Hp} {h l : Addr} (x : oE C H h l) (s : az H H') : oE C H' h l := by
 obtain ⟨dx, fs, e, a⟩ := x
 exact ⟨dx, fs, s _ _ e, a⟩
def Fe (C : Nat -> Addr) : Sp := fun vs H Q _ => ∃ (x dx d : Addr) (ps : List gh) (xs : List V), vs = [.ref x, .ref d] /\ H x = some (.ins (C 8) dx []) /\ H d = some (.lst xs) /\ Eg C H xs ps /\ fH ps /\ ∀ l H', H l = none -> SameBut x H H' -> oE C H' x l -> H' l = some (.lst xs) -> Q .non H'
def Gf (C : Nat -> Addr) : Sp := fun vs H Q _ => ∃ (h l : Addr) (ps : List gh) (z : Str), vs = [.ref h, .str z] /\ cQ C H h l ps /\ fH ps /\ Pur (.bl (decide (z ∈ adS ps))) H Q
theorem KJ {ps : List gh} {i : Nat} (hi : i < ps.length) : ((adS ps).map V.str).getD i .non = V.str (dotted ps[i].ad) := by simp [adS, List.getD, hi]
theorem Ht {ps : List gh} {n : Nat} (hn : n = ps.length) : (List.range n).map (fun i => ((adS ps).map V.str).getD i .non) = (adS ps).map V.str := by
 apply ext_getElem
 ·simp [adS, hn]
 ·intro i h1 h2
  have : i < ps.length := by simpa [adS] using h2
  simp [adS, this]
theorem CJ {ps : List gh} (nd : (adS ps).Nodup) {i : Nat} {p : gh} (h : ps[i]? = some p) : inV (.str (dotted p.ad)) (((adS ps).take i).map V.str) = false := Eh fun v hv => by
 obtain ⟨z, hz, rfl⟩ := mem_map.mp hv
 refine ⟨z, rfl, fun e => ?_⟩
 obtain ⟨j, hj, ej⟩ := getElem_of_mem hz
 have hji : j < i := lt_of_lt_of_le hj (List.length_take_le i _)
 have e1 : (adS ps)[i]? = some (dotted p.ad) := by unfold adS; rw [getElem?_map, h]; rfl
 have e2 : (adS ps)[j]? = some z := by
  have : ((adS ps).take i)[j]? = some z := by rw [getElem?_eq_getElem hj, ej]
  rw [List.getElem?_take] at this
  simpa [hji] using this
 have hl := (List.getElem?_eq_some_iff.mp e2).1
 exact absurd ((List.getElem?_inj hl nd).mp (by rw [e1, e2, e])) (ne_of_lt hji)
theorem Fz (zs : List Str) {k : Int} (h : 0 <= k) : gU (zs.map V.str) none (some k) = (zs.take k.toNat).map V.str := by
 have e := uG (zs.map V.str) k.toNat
 rw [show ((k.toNat : Nat) : Int) = k from by omega] at e
 rw [e, map_take]
theorem DQ : eZ ("a" : Str) := Br Z4
theorem Eb {w : Str} (h : eZ w) : oY [w] := ⟨Z2, (by show 1 <= 3; decide), fun y hy => by rw [mem_singleton.mp hy]; exact h⟩
def KZ (K : Frag) (n : Bool) : R2 := fun x y H Q => ∃ a b xs, x = .ref a /\ y = .ref b /\ SqL K H a xs /\ SqL K H b [] /\ Q (.bl (xs.isEmpty == n)) H
theorem Gm {X : Cx} {K : Frag} (hK : X.K = K) (hu : X.A.units + 64 < cLine) : OpR X (compareOp .Eq) (KZ K true) := by
 subst hK
 intro pins s σ H x y v u Q I rx ry h
 obtain ⟨a, b, xs, rfl, rfl, ha, hb, q⟩ := h
 cases rx; cases ry
 obtain ⟨us, r1, p1, _⟩ := I.list ha
 obtain ⟨ws, r2, p2, _⟩ := I.list hb
 cases r2
 cases r1 with
 | nil => exact SeqAt.eq_listAt (e := fun _ => true) p1.isList p2.isList rfl Z1 (fun j h1 h2 => absurd h1 (not_lt_zero _)) ⟨.bl true, H, I, rfl, q⟩
 | cons r t => exact SeqAt.eq_list_lengthsAt p1.isList p2.isList Z2 Z1 ⟨.bl false, H, I, rfl, q⟩
theorem Fp {X : Cx} {K : Frag} (hK : X.K = K) (hu : X.A.units + 64 < cLine) : OpR X (compareOp .NotEq) (KZ K false) := by
 subst hK
 intro pins s σ H x y v u Q I rx ry h
 obtain ⟨a, b, xs, rfl, rfl, ha, hb, q⟩ := h
 cases rx; cases ry
 obtain ⟨us, r1, p1, _⟩ := I.list ha
 obtain ⟨ws, r2, p2, _⟩ := I.list hb
 cases r2
 cases r1 with
 | nil =>
  have := SeqAt.RcNeAt.lists (A := X.A) (s := s) (e := fun _ => true) p1.isList p2.isList rfl Z1 fun j h1 h2 => absurd h1 (not_lt_zero _)
  exact this X.prog X.w X.xe _ ⟨.bl false, H, I, rfl, q⟩
 | cons r t =>
  have := SeqAt.RcNeAt.lists_lengths (A := X.A) (s := s) p1.isList p2.isList Z2 Z1
  exact this X.prog X.w X.xe _ ⟨.bl true, H, I, rfl, q⟩
theorem aR.u1 {k : Nat} {A : Around} (r : aR k A) : A.units + 1 < cLine := by have := r.units; omega
structure Li (K : Frag) (C : Addr) : Prop where
 cl : RCl K C
 nh : bZ K C "house"
 nl : bZ K C "held"
 nr : bZ K C "reach"
 ne : bZ K C "ended"
 nb : bZ K C "begun"
 nv : bZ K C "events"
structure LQ (K : Frag) (C : Addr) : Prop where
 cl : RCl K C
 nh : bZ K C "house"
 ns : bZ K C "stand"
 nd : bZ K C "drawn"
structure FlD where
 h : Addr
 hl : Addr
 re : Addr
 en : Addr
 bg : Addr
 ev : Addr
def Jo : List Str := ["copied", "log", "filled", "names", "touched", "note", "touch", "draw_step", "fill_part", "read_step", "bind"]
structure Mv (fs : List (Str × V)) (d : FlD) : Prop where
 h : fs.lookup ("house" : Str) = some (.ref d.h)
 hl : fs.lookup ("held" : Str) = some (.ref d.hl)
 re : fs.lookup ("reach" : Str) = some (.ref d.re)
 en : fs.lookup ("ended" : Str) = some (.ref d.en)
 bg : fs.lookup ("begun" : Str) = some (.ref d.bg)
 ev : fs.lookup ("events" : Str) = some (.ref d.ev)
 me : ∀ m ∈ Jo, fs.lookup m = none
 ln : fs.length < 10
theorem qx {f : Str} {v x : V} : ∀ {fs : List (Str × V)}, fs.lookup f = some x -> (aX f v fs).length = fs.length
 | [], h => by cases h
 | (g, y) :: r, h => by
  show (if g = f then (g, v) :: r else (g, y) :: aX f v r).length = _
  by_cases e : g = f
  ·rw [if_pos e]; rfl
  ·rw [if_neg e]
   rw [lookup_cons, show (f == g) = false from beq_eq_false_iff_ne.mpr fun z => e z.symm] at h
   exact congrArg (· + 1) (qx (fs := r) h)
def bY (C : Nat -> Addr) (H : Hp) (f : Addr) (d : FlD) : Prop := ∃ dx fs, H f = some (.ins (C 9) dx fs) /\ Mv fs d
def Kd (H : Hp) (v : V) (k : Str) : Prop := (∃ i, v = .int i /\ k = "number") \/ (∃ t xs, v = .ref t /\ H t = some (.tup (.str k :: xs)) /\ k ≠ "number")
def vg : Sp := fun vs H Q _ => ∃ v k, vs = [v] /\ Kd H v k /\ Pur (.bl (decide (k = "number"))) H Q
def jJ : Sp := fun vs H Q _ => ∃ v k, vs = [v] /\ Kd H v k /\ Pur (.str k) H Q
def xZ : Sp := fun vs H Q _ => ∃ s v k, vs = [s, v] /\ Kd H v k /\ k ≠ "late" /\ Pur v H Q
def vK : Sp := fun vs H Q _ => ∃ z : Str, vs = [.str z] /\ eZ z /\ ∀ l H', H l = none -> az H H' -> H' l = some (.lst [.str z]) -> Q (.ref l) H'
def lW (C : Nat -> Addr) : Sp := fun vs H Q _ => ∃ (f : Addr) (v : V) (d : FlD) (xs : List V), vs = [.ref f, v] /\ bY C H f d /\ H d.ev = some (.lst xs) /\ xs.length < 100000 /\ Q .non (upd H d.ev (.lst (xs ++ [v])))
def Bm (C : Nat -> Addr) : Sp := fun vs H Q _ => ∃ (f : Addr) (d : FlD) (xs : List V), vs = [.ref f] /\ bY C H f d /\ H d.ev = some (.lst xs) /\ ∀ l, H l = none -> Q (.ref l) (upd H l (.lst xs))
def pG (C : Nat -> Addr) : Sp := fun vs H Q _ => ∃ (f : Addr) (d : FlD) (xs : List V), vs = [.ref f] /\ bY C H f d /\ H d.en = some (.lst xs) /\ ∀ l, H l = none -> Q (.ref l) (upd H l (.lst xs))
def rE (C : Nat -> Addr) : Sp := fun vs H Q _ => ∃ (f : Addr) (d : FlD) (z : Str) (e : Addr) (kvs : List (Key × V)), vs = [.ref f, .str z] /\ bY C H f d /\ H d.re = some (.dK kvs) /\ jF kvs (.inr z) = some (.ref e) /\ H e = some (.dK []) /\ ∀ l H', H l = none -> az H H' -> H' l = some (.lst []) -> Q (.ref l) H'
inductive BV where
 | num (n : Int)
 | deed (ts : List Trm)
abbrev Bn := List (Str × BV)
def lR (H : Hp) (ad nm : Str) (b : BV) (v : V) : Prop := match b with
 | .num n => v = .int n
 | .deed ts => ∃ t, v = .ref t /\ H t = some (.tup [.str "deed", .str ad, .str nm, .str (textOf ts)])
def bvK : BV -> Str
 | .num _ => "number"
 | .deed _ => "deed"
theorem lR.same {H H' : Hp} {ad nm : Str} {b : BV} {v : V} (h : lR H ad nm b v) (s : az H H') : lR H' ad nm b v := by
 cases b with
 | num n => exact h
 | deed ts => obtain ⟨t, e, ht⟩ := h; exact ⟨t, e, s _ _ ht⟩
theorem lR.kd {H : Hp} {ad nm : Str} {b : BV} {v : V} (h : lR H ad nm b v) : Kd H v (bvK b) := by
 cases b with
 | num n => exact .inl ⟨n, h, rfl⟩
 | deed ts => obtain ⟨t, e, ht⟩ := h; exact .inr ⟨t, _, e, ht, by show ("deed" : Str) ≠ "number"; decide +kernel⟩
theorem Es (b : BV) : bvK b ≠ "late" := by
 cases b with
 | num n => show ("number" : Str) ≠ "late"; decide +kernel
 | deed ts => show ("deed" : Str) ≠ "late"; decide +kernel
def Qt (H : Hp) (v : V) : Prop := ∃ t k ys, v = .ref t /\ H t = some (.tup (.str k :: ys)) /\ k ≠ ("row" : Str)
theorem Qt.same {H H' : Hp} {v : V} (h : Qt H v) (s : ∀ b xs, H b = some (.tup xs) -> H' b = some (.tup xs)) : Qt H' v := by
 obtain ⟨t, k, ys, e, ht, hk⟩ := h
 exact ⟨t, k, ys, e, s _ _ ht, hk⟩
structure Mor (ev : Addr) (n : Nat) (xs : List V) (H H' : Hp) : Prop where
 ex : ∃ ms : List V, H' ev = some (.lst (xs ++ ms)) /\ ms.length <= n /\ ∀ v ∈ ms, Qt H' v
 sb : SameBut ev H H'
theorem Mor.same {ev : Addr} {n : Nat} {xs : List V} {H H' H0 : Hp} (m : Mor ev n xs H H') (s : az H0 H) (h0 : H0 ev = none) : az H0 H' := fun b o e => m.sb b o (s b o e) (ak e h0)
theorem Mor.trans {ev : Addr} {n m : Nat} {xs ys : List V} {H H1 H2 : Hp} (a : Mor ev n xs H H1) (e : H1 ev = some (.lst ys)) (b : Mor ev m ys H1 H2) : Mor ev (n + m) xs H H2 := by
 obtain ⟨ms, e1, l1, q1⟩ := a.ex
 obtain ⟨ns, e2, l2, q2⟩ := b.ex
 rw [e] at e1
 cases e1
 refine ⟨⟨ms ++ ns, by rw [<- append_assoc]; exact e2, by rw [length_append]; omega, fun v hv => ?_⟩, fun x o h hx => b.sb x o (a.sb x o h hx) hx⟩
 rcases mem_append.mp hv with k | k
 ·exact (q1 v k).same fun c zs h => b.sb c _ h fun z => by rw [z, e] at h; cases h
 ·exact q2 v k
theorem Mor.le {ev : Addr} {n m : Nat} {xs : List V} {H H1 : Hp} (a : Mor ev n xs H H1) (h : n <= m) : Mor ev m xs H H1 := by
 obtain ⟨ms, e1, l1, q1⟩ := a.ex
 exact ⟨⟨ms, e1, le_trans l1 h, q1⟩, a.sb⟩
theorem Mor.go {ev : Addr} {n : Nat} {xs : List V} {H H1 H2 : Hp} (a : Mor ev n xs H H1) (s : az H1 H2) : Mor ev n xs H H2 := by
 obtain ⟨ms, e1, l1, q1⟩ := a.ex
 exact ⟨⟨ms, s _ _ e1, l1, fun v hv => (q1 v hv).same fun c zs h => s _ _ h⟩, fun x o h hx => s _ _ (a.sb x o h hx)⟩
theorem Mor.pre {ev : Addr} {n : Nat} {xs : List V} {H H1 H2 : Hp} (m : Mor ev n xs H1 H2) (s : az H H1) : Mor ev n xs H H2 := ⟨m.ex, fun b o e hb => m.sb b o (s b o e) hb⟩
theorem Mor.one {ev t : Addr} {xs : List V} {k : Str} {ys : List V} {H H0 : Hp} (s : az H0 H) (he : H0 ev = some (.lst xs)) (ht : H t = none) (hk : k ≠ ("row" : Str)) : Mor ev 1 xs H0 (upd (upd H t (.tup (.str k :: ys))) ev (.lst (xs ++ [.ref t]))) := by
 have ne : t ≠ ev := fun z => by have := s _ _ he; rw [<- z, ht] at this; cases this
 refine ⟨⟨[.ref t], ao, le_refl _, fun v hv => ?_⟩, fun b o e hb => ?_⟩
 ·rw [mem_singleton.mp hv]
  exact ⟨t, k, ys, rfl, by rw [aA ne]; exact ao, hk⟩
 ·rw [aA hb, aA (ak (s _ _ e) ht)]; exact s _ _ e
theorem Mor.nil {ev : Addr} {xs : List V} {H : Hp} (he : H ev = some (.lst xs)) : Mor ev 0 xs H H := ⟨⟨[], by rw [append_nil]; exact he, le_refl _, fun v hv => absurd hv not_mem_nil⟩, fun _ _ e _ => e⟩
theorem Mor.new {ev t : Addr} {xs : List V} {o : HO} {n : Nat} {H : Hp} (he : H ev = some (.lst xs)) (ht : H t = none) : Mor ev n xs H (upd H t o) := ((Mor.nil he).go (az.new ht)).le (zero_le _)
def qX (rs : List bF) (z : Str) : V := if z = "" then .non else match rs.findIdx? (fun r => decide (r.nm = z)) with | some i => .int (i : Nat) | none => .non
theorem yW {rs : List bF} {z : Str} {i : Nat} {r : bF} (h : rs[i]? = some r) (e : r.nm = z) (hz : ¬ z = "") (hb : ∀ (j : Nat) r, j < i -> rs[j]? = some r -> ¬ r.nm = z) : qX rs z = .int (i : Nat) := by
 unfold qX
 have hi := (List.getElem?_eq_some_iff.mp h).1
 have f : rs.findIdx? (fun r => decide (r.nm = z)) = some i := by
  rw [List.findIdx?_eq_some_iff_getElem]
  refine ⟨hi, ?_, fun j hj => ?_⟩
  ·rw [getElem?_eq_getElem hi] at h
   cases h
   exact decide_eq_true e
  ·have := hb j _ hj (getElem?_eq_getElem (lt_trans hj hi))
   simpa using this
 rw [if_neg hz, f]
theorem Fw {rs : List bF} {z : Str} (hz : ¬ z = "") (hb : ∀ (j : Nat) r, rs[j]? = some r -> ¬ r.nm = z) : qX rs z = .non := by
 unfold qX
 have f : rs.findIdx? (fun r => decide (r.nm = z)) = none := by
  rw [List.findIdx?_eq_none_iff]
  intro r hr
  obtain ⟨i, hi, e⟩ := getElem_of_mem hr
  exact decide_eq_false (hb i r (by rw [getElem?_eq_getElem hi, e]))
 rw [if_neg hz, f]
def Cv (C : Nat -> Addr) : Sp := fun vs H Q _ => ∃ (p : Addr) (ad : Str) (l : Addr) (rs : List bF) (z : Str), vs = [.ref p, .str z] /\ gO C H p ad l rs /\ je rs /\ Pur (qX rs z) H Q
def tv0 (bn : Bn) : Thg -> Int
 | .num n => n
 | .nms _ ys => match bn.lookup (ys.headD "") with
  | some (.num v) => v
  | _ => 0
def uV (bn : Bn) (ts : List Trm) : Int := (ts.map fun t => t.sg * tv0 bn t.th).sum
def tv (bn : Bn) : Thg -> Int
 | .num n => n
 | .nms c ys => match bn.lookup (ys.headD "") with
  | some (.num v) => v
  | some (.deed ts) => if c = true then uV bn ts else 0
  | none => 0
def oV (bn : Bn) (ts : List Trm) : Int := (ts.map fun t => t.sg * tv bn t.th).sum
theorem Ce {bn : Bn} {nm : Str} {v : Int} (h : bn.lookup nm = some (.num v)) : tv0 bn (.nms false [nm]) = v := by show (match bn.lookup nm with | some (.num v) => v | _ => 0) = v; rw [h]
theorem Fi {bn : Bn} {nm : Str} {v : Int} (h : bn.lookup nm = some (.num v)) : tv bn (.nms false [nm]) = v := by show (match bn.lookup nm with | some (.num v) => v | some (.deed ts) => if false = true then uV bn ts else 0 | none => 0) = v; rw [h]
theorem Bw {bn : Bn} {nm : Str} {ts : List Trm} (h : bn.lookup nm = some (.deed ts)) : tv bn (.nms true [nm]) = uV bn ts := by show (match bn.lookup nm with | some (.num v) => v | some (.deed ts) => if true = true then uV bn ts else 0 | none => 0) = _; rw [h]; rfl
theorem Cy {g : Trm -> Int} {ts : List Trm} {t : Trm} (hg : lL ts) (h1 : ts.length = 1) (h : ts[0]? = some t) : (ts.map fun t => t.sg * g t).sum = g t := by
 match ts, h1, h with
 | [u], _, h =>
  have e : u = t := Option.some.inj h
  subst e
  have := hg.hd _ rfl
  simp [this]
theorem jG {g : Trm -> Int} {ts : List Trm} {t : Trm} {i : Nat} (h : ts[i]? = some t) : ((ts.take (i + 1)).map g).sum = ((ts.take i).map g).sum + g t := by
 rw [take_succ, h, map_append, List.sum_append]
 simp
theorem pP {i j : Int} (h : i = 1 \/ i = -1) : DW i j := by
 rcases h with rfl | rfl
 ·exact .inl ⟨Z0, Z0⟩
 ·exact .inl ⟨Z0, Z0⟩
def Ty0 (bn : Bn) (th : Thg) : Prop := (∃ n, th = .num n) \/ ∃ nm v, th = .nms false [nm] /\ bn.lookup nm = some (.num v)
def Ty1 (bn : Bn) (th : Thg) : Prop := Ty0 bn th \/ ∃ nm ts, th = .nms true [nm] /\ bn.lookup nm = some (.deed ts)
def JR (bn : Bn) (rs : List bF) : Prop := ∀ nm ts, bn.lookup nm = some (.deed ts) -> (∀ t ∈ ts, Ty0 bn t.th) /\ ∃ j r, rs[j]? = some r /\ r.so = 1 /\ r.nm = nm /\ r.ts = ts /\ ∀ (i : Nat) r', i < j -> rs[i]? = some r' -> ¬ r'.nm = nm
structure vX (C : Nat -> Addr) (H : Hp) (f : Addr) (d : FlD) (ad : Str) (bn : Bn) : Prop where
 fl : bY C H f d
 held : ∃ ks kvs e, H d.hl = some (.dK ks) /\ jF ks (.inr ad) = some (.ref e) /\ H e = some (.dK kvs) /\ ∀ nm b, bn.lookup nm = some b -> ∃ v, jF kvs (.inr nm) = some v /\ lR H ad nm b v
 bg : ∃ t i, H d.bg = some (.lst [.ref t]) /\ H t = some (.tup [.str ad, .int i])
 ev : H d.ev = none
 ho : ∃ l rs, cQ C H d.h l [⟨[ad], rs⟩] /\ fH [⟨[ad], rs⟩] /\ JR bn rs
def qP (C : Nat -> Addr) : Sp := fun vs H Q _ => ∃ (f : Addr) (d : FlD) (ad : Str), vs = [.ref f, .str ad] /\ bY C H f d /\ (H d.bg = some (.lst []) \/ ∃ t i, H d.bg = some (.lst [.ref t]) /\ H t = some (.tup [.str ad, .int i])) /\ Pur .non H Q
def o4 (C : Nat -> Addr) : Sp := fun vs H Q _ => ∃ (H0 : Hp) (f : Addr) (d : FlD) (ad nm : Str) (bn : Bn) (b : BV) (xs : List V), vs = [.ref f, .str ad, .str nm] /\ vX C H0 f d ad bn /\ az H0 H /\ H d.ev = some (.lst xs) /\ xs.length < 90000 /\ bn.lookup nm = some b /\
 ∀ v H', lR H' ad nm b v -> Mor d.ev 1 xs H H' -> Q v H'
def uH (C : Nat -> Addr) : Sp := fun vs H Q _ => ∃ (H0 : Hp) (f : Addr) (d : FlD) (ad nm : Str) (bn : Bn) (b : BV) (xs : List V) (p : Addr), vs = [.ref f, .str ad, .ref p] /\ H0 p = some (.tup [.str nm]) /\ vX C H0 f d ad bn /\ az H0 H /\ H d.ev = some (.lst xs) /\ xs.length < 90000 /\ bn.lookup nm = some b /\
 ∀ t v H', lR H' ad nm b v -> Mor d.ev 1 xs H H' -> H' t = some (.tup [v, .str ad, .str nm]) -> Q (.ref t) H'
def BX (C : Nat -> Addr) : Sp := fun vs H Q _ => ∃ (H0 : Hp) (f : Addr) (d : FlD) (ad : Str) (bn : Bn) (x : V) (t : Trm) (xs : List V), vs = [.ref f, .str ad, x] /\ qM H0 x t /\ Ty0 bn t.th /\ vX C H0 f d ad bn /\ az H0 H /\ H d.ev = some (.lst xs) /\ xs.length < 90000 /\
 ∀ p (w n : Str) H', Mor d.ev 1 xs H H' -> H' p = some (.tup [.int (tv0 bn t.th), .str w, .str n]) -> Q (.ref p) H'
def BR (C : Nat -> Addr) : Sp := fun vs H Q _ => ∃ (H0 : Hp) (f : Addr) (d : FlD) (ad : Str) (bn : Bn) (l : Addr) (ts : List Trm) (xs : List V), vs = [.ref f, .str ad, .ref l] /\ fO H0 l ts /\ lL ts /\ (∀ t ∈ ts, Ty0 bn t.th) /\ vX C H0 f d ad bn /\ az H0 H /\ H d.ev = some (.lst xs) /\ xs.length < 80000 /\
 ∀ H', Mor d.ev 6 xs H H' -> Q (.int (uV bn ts)) H'
def yZ (C : Nat -> Addr) : Sp := fun vs H Q _ => ∃ (H0 : Hp) (f : Addr) (d : FlD) (ad nm : Str) (bn : Bn) (t : Addr) (ts : List Trm) (xs : List V), vs = [.ref f, .ref t] /\ bn.lookup nm = some (.deed ts) /\ lR H ad nm (.deed ts) (.ref t) /\ vX C H0 f d ad bn /\ az H0 H /\ H d.ev = some (.lst xs) /\ xs.length < 70000 /\
 ∀ H', Mor d.ev 8 xs H H' -> Q (.int (uV bn ts)) H'
def yo (C : Nat -> Addr) : Sp := fun vs H Q _ => ∃ (H0 : Hp) (f : Addr) (d : FlD) (ad : Str) (bn : Bn) (x : V) (t : Trm) (xs : List V), vs = [.ref f, .str ad, x] /\ qM H0 x t /\ Ty1 bn t.th /\ vX C H0 f d ad bn /\ az H0 H /\ H d.ev = some (.lst xs) /\ xs.length < 60000 /\
 ∀ p (w n : Str) H', Mor d.ev 9 xs H H' -> H' p = some (.tup [.int (tv bn t.th), .str w, .str n]) -> Q (.ref p) H'
def zq (C : Nat -> Addr) : Sp := fun vs H Q _ => ∃ (H0 : Hp) (f : Addr) (d : FlD) (ad : Str) (bn : Bn) (l : Addr) (ts : List Trm) (xs : List V), vs = [.ref f, .str ad, .ref l] /\ fO H0 l ts /\ lL ts /\ (∀ t ∈ ts, Ty1 bn t.th) /\ vX C H0 f d ad bn /\ az H0 H /\ H d.ev = some (.lst xs) /\ xs.length < 50000 /\
 ∀ H', Mor d.ev 54 xs H H' -> Q (.int (oV bn ts)) H'
def oA (C : Nat -> Addr) : Sp := fun vs H Q _ => ∃ (H0 : Hp) (h l : Addr) (ps : List gh) (z : Str), vs = [.ref h, .str z] /\ cQ C H0 h l ps /\ az H0 H /\ z ∈ adS ps /\ ∀ (i : Nat) p a lr H', az H H' -> ps[i]? = some p -> dotted p.ad = z -> gO C H0 a (dotted p.ad) lr p.rs -> Q (.ref a) H'
theorem wX {ad : Str} {rs : List bF} : ad ∈ adS [⟨[ad], rs⟩] := by show ad ∈ [dotted [ad]]; rw [dF]; exact mem_singleton.mpr rfl
theorem Ai {α : Type} {p q : α} {i : Nat} (h : [p][i]? = some q) : q = p := by
 cases i with
 | zero => exact (Option.some.inj h).symm
 | succ i => cases h
def El (bn : Bn) (r : bF) : Prop := (r.so = 1 /\ ∀ t ∈ r.ts, Ty0 bn t.th) \/ ((r.so = 0 \/ r.so = 5) /\ ∀ t ∈ r.ts, Ty1 bn t.th)
def Bf (bn : Bn) (r : bF) : BV := if r.so = 1 then .deed r.ts else .num (oV bn r.ts)
def Cd (C : Nat -> Addr) : Sp := fun vs H Q _ => ∃ (H0 : Hp) (f : Addr) (d : FlD) (ad : Str) (bn : Bn) (a l : Addr) (r : bF) (xs : List V), vs = [.ref f, .str ad, .ref a] /\ gY C H0 a l r /\ GoodR r /\ El bn r /\ vX C H0 f d ad bn /\ az H0 H /\ H d.ev = some (.lst xs) /\ xs.length < 40000 /\
 ∀ v H', lR H' ad r.nm (Bf bn r) v -> Mor d.ev 54 xs H H' -> Q v H'
def Tbl (R : Str -> BV -> V -> Prop) : List (Key × V) -> Bn -> Prop
 | [], [] => True
 | p :: kvs, q :: bn => p.1 = .inr q.1 /\ R q.1 q.2 p.2 /\ Tbl R kvs bn
 | _, _ => False
theorem Tbl.mono {R R' : Str -> BV -> V -> Prop} (h : ∀ nm b v, R nm b v -> R' nm b v) : ∀ {kvs : List (Key × V)} {bn : Bn}, Tbl R kvs bn -> Tbl R' kvs bn
 | [], [], _ => trivial
 | _ :: _, _ :: _, ⟨a, b, c⟩ => ⟨a, h _ _ _ b, Tbl.mono h c⟩
theorem Tbl.len {R : Str -> BV -> V -> Prop} : ∀ {kvs : List (Key × V)} {bn : Bn}, Tbl R kvs bn -> kvs.length = bn.length
 | [], [], _ => rfl
 | _ :: _, _ :: _, ⟨_, _, c⟩ => congrArg (· + 1) (Tbl.len c)
theorem Tbl.get {R : Str -> BV -> V -> Prop} {nm : Str} {b : BV} : ∀ {kvs : List (Key × V)} {bn : Bn}, Tbl R kvs bn -> bn.lookup nm = some b -> ∃ v, jF kvs (.inr nm) = some v /\ R nm b v
 | [], [], _, h => by cases h
 | p :: kvs, (n, c) :: bn, ⟨e, r, t⟩, h => by
  by_cases k : nm = n
  ·subst k
   rw [lookup_cons_self] at h
   cases h
   exact ⟨p.2, cB e, r⟩
  ·have h' : List.lookup nm bn = some b := by
    rw [lookup_cons] at h
    rw [show (nm == n) = false from beq_eq_false_iff_ne.mpr k] at h
    exact h
   obtain ⟨v, hv, rv⟩ := Tbl.get t h'
   exact ⟨v, by rw [gG (by rw [e]; intro z; exact k (Sum.inr.inj z).symm)]; exact hv, rv⟩
theorem Tbl.no {R : Str -> BV -> V -> Prop} {nm : Str} : ∀ {kvs : List (Key × V)} {bn : Bn}, Tbl R kvs bn -> bn.lookup nm = none -> jF kvs (.inr nm) = none
 | [], [], _, _ => rfl
 | p :: kvs, (n, c) :: bn, ⟨e, _, t⟩, h => by
  by_cases k : nm = n
  ·subst k
   rw [lookup_cons_self] at h
   cases h
  ·have h' : List.lookup nm bn = none := by
    rw [lookup_cons] at h
    rw [show (nm == n) = false from beq_eq_false_iff_ne.mpr k] at h
    exact h
   rw [gG (by rw [e]; intro z; exact k (Sum.inr.inj z).symm)]
   exact Tbl.no t h'
theorem Tbl.snoc {R : Str -> BV -> V -> Prop} {nm : Str} {b : BV} {v : V} (r : R nm b v) : ∀ {kvs : List (Key × V)} {bn : Bn}, Tbl R kvs bn -> Tbl R (kvs ++ [(.inr nm, v)]) (bn ++ [(nm, b)])
 | [], [], _ => ⟨rfl, r, trivial⟩
 | _ :: _, _ :: _, ⟨a, b, c⟩ => ⟨a, b, Tbl.snoc r c⟩
theorem Tbl.at {R : Str -> BV -> V -> Prop} : ∀ {kvs : List (Key × V)} {bn : Bn} {i : Nat} {nm : Str} {b : BV}, Tbl R kvs bn -> bn[i]? = some (nm, b) -> ∃ v, kvs[i]? = some (.inr nm, v) /\ R nm b v
 | [], [], _, _, _, _, h => by cases h
 | (k, v) :: kvs, q :: bn, 0, nm, b, ⟨e, r, _⟩, h => by
  obtain rfl : q = (nm, b) := Option.some.inj h
  exact ⟨v, by show some (k, v) = _; rw [show k = _ from e], r⟩
 | p :: kvs, q :: bn, i + 1, nm, b, ⟨_, _, t⟩, h => by
  obtain ⟨v, hv, r⟩ := Tbl.at (i := i) t h
  exact ⟨v, hv, r⟩
theorem uN {nm : Str} {b : BV} : ∀ {bn cn : Bn}, bn.lookup nm = some b -> (bn ++ cn).lookup nm = some b
 | [], _, h => by cases h
 | (n, c) :: bn, cn, h => by
  rw [cons_append]
  rw [lookup_cons] at h ⊢
  cases e : nm == n with
  | true => rw [e] at h; exact h
  | false => rw [e] at h; exact uN (bn := bn) h
theorem rC {nm nn : Str} {b : BV} : ∀ {bn : Bn}, bn.lookup nm = none -> (bn ++ [(nn, b)]).lookup nm = if nm = nn then some b else none
 | [], _ => by
  rw [List.nil_append, lookup_cons]
  by_cases e : nm = nn
  ·rw [if_pos e, show (nm == nn) = true from beq_iff_eq.mpr e]
  ·rw [if_neg e, show (nm == nn) = false from beq_eq_false_iff_ne.mpr e]; rfl
 | (n, c) :: bn, h => by
  rw [cons_append]
  rw [lookup_cons] at h ⊢
  cases e : nm == n with
  | true => rw [e] at h; cases h
  | false => rw [e] at h; exact rC (bn := bn) h
def yU (C : Nat -> Addr) : Sp := fun vs H Q _ => ∃ (f : Addr) (d : FlD) (ad nm : Str) (v : V) (ks kvs : List (Key × V)) (e : Addr) (xs : List V), vs = [.ref f, .str ad, .str nm, v] /\ bY C H f d /\ H d.hl = some (.dK ks) /\ jF ks (.inr ad) = some (.ref e) /\ H e = some (.dK kvs) /\ kvs.length < 1000 /\ H d.ev = some (.lst xs) /\ xs.length < 90000 /\ e ≠ d.hl /\
 (nm = "" -> Q .non H) /\ (nm ≠ "" -> ∀ H', Mor d.ev 1 xs (upd H e (.dK (putK kvs (.inr nm) v))) H' -> Q .non H')
def u6 (C : Nat -> Addr) : Sp := fun vs H Q _ => ∃ (f : Addr) (d : FlD) (ad : Str) (ks kvs : List (Key × V)) (e : Addr), vs = [.ref f, .str ad] /\ bY C H f d /\ H d.hl = some (.dK ks) /\ jF ks (.inr ad) = some (.ref e) /\ H e = some (.dK kvs) /\
 ∀ l (as : List Addr) H', H l = none -> az H H' -> as.length = kvs.length -> H' l = some (.lst (as.map V.ref)) -> (∀ (i : Nat) k v, kvs[i]? = some (k, v) -> ∃ a, as[i]? = some a /\ H' a = some (.tup [kV k, v])) -> Q (.ref l) H'
def ers (H : Hp) (a : Addr) : Hp := fun b => if b = a then none else H b
theorem ul {H : Hp} {a : Addr} : ers H a a = none := if_pos rfl
theorem nA {H : Hp} {a b : Addr} {o : HO} (h : H b = some o) (n : b ≠ a) : ers H a b = some o := (if_neg n).trans h
theorem lZ {H : Hp} {a : Addr} : az (ers H a) H := fun b o h => by
 unfold ers at h
 by_cases e : b = a
 ·rw [if_pos e] at h; cases h
 ·rw [if_neg e] at h; exact h
theorem zc {B H : Hp} {a : Addr} (s : az B H) (h : B a = none) : az B (ers H a) := fun b o e => nA (s b o e) (ak e h)
def bR (bn : Bn) (r : bF) : Bn := if r.nm = "" then bn else bn ++ [(r.nm, Bf bn r)]
def bB (rs : List bF) : Bn := rs.foldl bR []
theorem oF {rs : List bF} {r : bF} : bB (rs ++ [r]) = bR (bB rs) r := by unfold bB; rw [List.foldl_append]; rfl
theorem jz {rs : List bF} {i : Nat} {r : bF} (h : rs[i]? = some r) : bB (rs.take (i + 1)) = bR (bB (rs.take i)) r := by rw [take_succ, h]; exact oF
structure mR (rs : List bF) : Prop where
 ty : ∀ (i : Nat) r, rs[i]? = some r -> El (bB (rs.take i)) r
 nw : ∀ (i : Nat) r, rs[i]? = some r -> r.nm ≠ "" -> ∀ (j : Nat) r', j < i -> rs[j]? = some r' -> ¬ r'.nm = r.nm
theorem nQ {bn : Bn} {r : bF} {nm : Str} {b : BV} (h : bn.lookup nm = some b) : (bR bn r).lookup nm = some b := by
 unfold bR
 by_cases e : r.nm = ""
 ·rw [if_pos e]; exact h
 ·rw [if_neg e]; exact uN h
theorem Ty0.step {bn : Bn} {r : bF} {th : Thg} (h : Ty0 bn th) : Ty0 (bR bn r) th := by
 rcases h with h | ⟨nm, v, e, h⟩
 ·exact .inl h
 ·exact .inr ⟨nm, v, e, nQ h⟩
theorem Ty1.step {bn : Bn} {r : bF} {th : Thg} (h : Ty1 bn th) : Ty1 (bR bn r) th := by
 rcases h with h | ⟨nm, ts, e, h⟩
 ·exact .inl h.step
 ·exact .inr ⟨nm, ts, e, nQ h⟩
theorem uw {rs : List bF} {nm : Str} {b : BV} : ∀ {i : Nat}, i <= rs.length -> (bB (rs.take i)).lookup nm = some b -> ∃ j r, j < i /\ rs[j]? = some r /\ r.nm = nm /\ r.nm ≠ "" /\ Bf (bB (rs.take j)) r = b
 | 0, _, h => by rw [List.take_zero] at h; cases h
 | i + 1, hi, h => by
  have er : rs[i]? = some rs[i] := getElem?_eq_getElem hi
  rw [jz er] at h
  cases e : (bB (rs.take i)).lookup nm with
  | some c =>
   rw [nQ e] at h
   cases h
   obtain ⟨j, r, hj, k⟩ := uw (Nat.le_of_succ_le hi) e
   exact ⟨j, r, Nat.lt_succ_of_lt hj, k⟩
  | none =>
   unfold bR at h
   by_cases e0 : rs[i].nm = ""
   ·rw [if_pos e0, e] at h; cases h
   ·rw [if_neg e0, rC e] at h
    by_cases e1 : nm = rs[i].nm
    ·rw [if_pos e1] at h
     exact ⟨i, rs[i], lt_succ_self i, er, e1.symm, e0, Option.some.inj h⟩
    ·rw [if_neg e1] at h; cases h
theorem mR.new {rs : List bF} (g : mR rs) {i : Nat} {r : bF} (h : rs[i]? = some r) (hn : r.nm ≠ "") : (bB (rs.take i)).lookup r.nm = none := by
 cases e : (bB (rs.take i)).lookup r.nm with
 | none => rfl
 | some c =>
  have hi := (List.getElem?_eq_some_iff.mp h).1
  obtain ⟨j, r', hj, er, en, _⟩ := uw (le_of_lt hi) e
  exact absurd en (g.nw i r h hn j r' hj er)
theorem Ty0.up {rs : List bF} {th : Thg} {i : Nat} : ∀ {j : Nat}, j <= rs.length -> i <= j -> Ty0 (bB (rs.take i)) th -> Ty0 (bB (rs.take j)) th
 | 0, _, h, t => by rw [Nat.le_zero.mp h] at t; exact t
 | j + 1, hj, h, t => by
  rcases lt_or_ge j i with k | k
  ·rw [show i = j + 1 by omega] at t; exact t
  ·rw [jz (getElem?_eq_getElem hj)]; exact (Ty0.up (Nat.le_of_succ_le hj) k t).step
theorem mR.dd {rs : List bF} (g : mR rs) {i : Nat} (hi : i <= rs.length) : JR (bB (rs.take i)) rs := fun nm ts h => by
 obtain ⟨j, r, hj, er, en, e0, ev⟩ := uw hi h
 have h1 : r.so = 1 := by
  unfold Bf at ev
  by_cases k : r.so = 1
  ·exact k
  ·rw [if_neg k] at ev; cases ev
 unfold Bf at ev
 rw [if_pos h1] at ev
 cases ev
 refine ⟨fun t ht => ?_, j, r, er, h1, en, rfl, fun i' r' hi' er' z => g.nw j r er e0 i' r' hi' er' (z.trans en.symm)⟩
 rcases g.ty j r er with ⟨_, k⟩ | ⟨k, _⟩
 ·exact (k t ht).up hi (le_of_lt hj)
 ·omega
def Av (H : Hp) (ad : Str) (v : V) : Option Nat -> Prop
 | none => Qt H v
 | some j => ∃ t, v = .ref t /\ H t = some (.tup [.str "row", .str ad, .int (j : Nat)])
def Evs (H : Hp) (ad : Str) (ms : List V) (n : Nat) : Prop := ∃ ks : List (Option Nat), ks.length = ms.length /\ (∀ (i : Nat) v, ms[i]? = some v -> ∃ k, ks[i]? = some k /\ Av H ad v k) /\ ks.filterMap id = List.range n
theorem Av.same {H H' : Hp} {ad : Str} {v : V} {k : Option Nat} (h : Av H ad v k) (s : ∀ b xs, H b = some (.tup xs) -> H' b = some (.tup xs)) : Av H' ad v k := by
 cases k with
 | none => exact Qt.same h s
 | some j => obtain ⟨t, e, ht⟩ := h; exact ⟨t, e, s _ _ ht⟩
theorem Evs.same {H H' : Hp} {ad : Str} {ms : List V} {n : Nat} (h : Evs H ad ms n) (s : ∀ b xs, H b = some (.tup xs) -> H' b = some (.tup xs)) : Evs H' ad ms n := by
 obtain ⟨ks, a, b, c⟩ := h
 exact ⟨ks, a, fun i v e => by obtain ⟨k, ek, o⟩ := b i v e; exact ⟨k, ek, o.same s⟩, c⟩
theorem Fl {H : Hp} {ad : Str} {ms ns : List V} {ks js : List (Option Nat)} (l1 : ks.length = ms.length) (h1 : ∀ (i : Nat) v, ms[i]? = some v -> ∃ k, ks[i]? = some k /\ Av H ad v k) (h2 : ∀ (i : Nat) v, ns[i]? = some v -> ∃ k, js[i]? = some k /\ Av H ad v k) :
  ∀ (i : Nat) v, (ms ++ ns)[i]? = some v -> ∃ k, (ks ++ js)[i]? = some k /\ Av H ad v k := fun i v e => by
 rcases lt_or_ge i ms.length with k | k
 ·rw [getElem?_append_left k] at e
  rw [getElem?_append_left Z1]
  exact h1 i v e
 ·rw [getElem?_append_right k] at e
  rw [getElem?_append_right Z1, l1]
  exact h2 _ v e
theorem Evs.more {H : Hp} {ad : Str} {ms ns : List V} {n : Nat} (h : Evs H ad ms n) (q : ∀ v ∈ ns, Qt H v) : Evs H ad (ms ++ ns) n := by
 obtain ⟨ks, a, b, c⟩ := h
 refine ⟨ks ++ ns.map fun _ => none, by rw [length_append, length_append, length_map, a], Fl a b fun i v e => ⟨none, by rw [getElem?_map, e]; rfl, q v (mem_of_getElem? e)⟩, ?_⟩
 rw [List.filterMap_append, c]
 have : (ns.map fun _ => (none : Option Nat)).filterMap id = [] := by
  rw [List.filterMap_eq_nil_iff]
  intro o ho
  obtain ⟨_, _, e⟩ := mem_map.mp ho
  exact e.symm
 rw [this, append_nil]
theorem Evs.row {H : Hp} {ad : Str} {ms : List V} {n : Nat} {t : Addr} (h : Evs H ad ms n) (ht : H t = some (.tup [.str "row", .str ad, .int (n : Nat)])) : Evs H ad (ms ++ [.ref t]) (n + 1) := by
 obtain ⟨ks, a, b, c⟩ := h
 refine ⟨ks ++ [some n], by rw [length_append, length_append, a]; rfl, Fl a b fun i v e => ?_, ?_⟩
 ·cases i with
  | zero => cases e; exact ⟨some n, rfl, t, rfl, ht⟩
  | succ i => cases e
 ·rw [List.filterMap_append, c, range_succ]; rfl
structure FNe (B : Hp) (d : FlD) (e e2 : Addr) : Prop where
 h1 : d.hl ≠ d.re
 h2 : d.hl ≠ e
 h3 : d.hl ≠ e2
 r1 : d.re ≠ e
 r2 : d.re ≠ e2
 x : e ≠ e2
 n1 : d.en ≠ d.bg
 n2 : d.en ≠ d.ev
 n3 : d.bg ≠ d.ev
 bb : B d.bg = none
 be : B e = none
 bv : B d.ev = none
structure FW (C : Nat -> Addr) (B H : Hp) (f : Addr) (d : FlD) (ad : Str) (e e2 : Addr) (bn : Bn) (n k : Nat) : Prop where
 b : az B H
 fl : bY C H f d
 hl : H d.hl = some (.dK [(.inr ad, .ref e)])
 eh : ∃ kvs, H e = some (.dK kvs) /\ Tbl (lR H ad) kvs bn
 re : H d.re = some (.dK [(.inr ad, .ref e2)])
 er : H e2 = some (.dK [])
 en : H d.en = some (.lst [])
 bg : ∃ t i, H d.bg = some (.lst [.ref t]) /\ H t = some (.tup [.str ad, .int i])
 ev : ∃ ms t0, H d.ev = some (.lst (.ref t0 :: ms)) /\ H t0 = some (.tup [.str "begin", .str ad]) /\ Evs H ad (.ref t0 :: ms) n /\ ms.length <= k
theorem Tbl.same {H H' : Hp} {ad : Str} {kvs : List (Key × V)} {bn : Bn} (h : Tbl (lR H ad) kvs bn) (s : ∀ b xs, H b = some (.tup xs) -> H' b = some (.tup xs)) : Tbl (lR H' ad) kvs bn :=
 h.mono fun nm b v r => by
  cases b with
  | num n => exact r
  | deed ts => obtain ⟨t, e, ht⟩ := r; exact ⟨t, e, s _ _ ht⟩
section
variable {C : Nat -> Addr} {B H H' : Hp} {f : Addr} {d : FlD} {ad : Str} {e e2 : Addr} {bn : Bn} {n k : Nat}
theorem FW.go (w : FW C B H f d ad e e2 bn n k) (s : az H H') : FW C B H' f d ad e e2 bn n k := by
 obtain ⟨b, ⟨dx, fs, hf, ff⟩, hl, ⟨kvs, he, tb⟩, re, er, en, ⟨t, i, hb, ht⟩, ms, t0, hv, h0, ev, ml⟩ := w
 exact ⟨b.trans s, ⟨dx, fs, s _ _ hf, ff⟩, s _ _ hl, ⟨kvs, s _ _ he, tb.same fun b xs h => s _ _ h⟩, s _ _ re, s _ _ er, s _ _ en, ⟨t, i, s _ _ hb, s _ _ ht⟩, ms, t0, s _ _ hv, s _ _ h0, ev.same fun b xs h => s _ _ h, ml⟩
theorem FW.evs {xs : List V} {j : Nat} (N : FNe B d e e2) (w : FW C B H f d ad e e2 bn n k) (hx : H d.ev = some (.lst xs)) (m : Mor d.ev j xs H H') : FW C B H' f d ad e e2 bn n (k + j) := by
 obtain ⟨b, ⟨dx, fs, hf, ff⟩, hl, ⟨kvs, he, tb⟩, re, er, en, ⟨t, i, hb, ht⟩, ms, t0, hv, h0, ev, ml⟩ := w
 have st : ∀ b xs, H b = some (.tup xs) -> H' b = some (.tup xs) := fun b xs h => m.sb _ _ h (aF h hx Z6)
 obtain ⟨ns, hn, hnl, hq⟩ := m.ex
 rw [hv] at hx
 cases hx
 refine ⟨m.same b N.bv, ⟨dx, fs, m.sb _ _ hf (aF hf hv Z6), ff⟩, m.sb _ _ hl (aF hl hv Z6), ⟨kvs, m.sb _ _ he (aF he hv Z6), tb.same st⟩, m.sb _ _ re (aF re hv Z6), m.sb _ _ er (aF er hv Z6), m.sb _ _ en N.n2, ⟨t, i, m.sb _ _ hb N.n3, st _ _ ht⟩, ms ++ ns, t0, by rw [<- cons_append]; exact hn, st _ _ h0, by rw [<- cons_append]; exact (ev.same st).more hq, by rw [length_append]; omega⟩
theorem FW.row {xs : List V} {t1 : Addr} (N : FNe B d e e2) (w : FW C B H f d ad e e2 bn n k) (hx : H d.ev = some (.lst xs)) (ht1 : H t1 = some (.tup [.str "row", .str ad, .int (n : Nat)])) : FW C B (upd H d.ev (.lst (xs ++ [.ref t1]))) f d ad e e2 bn (n + 1) (k + 1) := by
 obtain ⟨b, ⟨dx, fs, hf, ff⟩, hl, ⟨kvs, he, tb⟩, re, er, en, ⟨t, i, hb, ht⟩, ms, t0, hv, h0, ev, ml⟩ := w
 have sb : SameBut d.ev H (upd H d.ev (.lst (xs ++ [.ref t1]))) := fun b o h hb => by rw [aA hb]; exact h
 have st : ∀ b ys, H b = some (.tup ys) -> upd H d.ev (.lst (xs ++ [.ref t1])) b = some (.tup ys) := fun b xs h => sb _ _ h (aF h hx Z6)
 rw [hv] at hx
 cases hx
 refine ⟨fun a o h => sb _ _ (b a o h) (ak h N.bv), ⟨dx, fs, sb _ _ hf (aF hf hv Z6), ff⟩, sb _ _ hl (aF hl hv Z6), ⟨kvs, sb _ _ he (aF he hv Z6), tb.same st⟩, sb _ _ re (aF re hv Z6), sb _ _ er (aF er hv Z6), sb _ _ en N.n2, ⟨t, i, sb _ _ hb N.n3, st _ _ ht⟩, ms ++ [.ref t1], t0, ao, st _ _ h0, by rw [<- cons_append]; exact (ev.same st).row (st _ _ ht1), by rw [length_append]; exact Nat.add_le_add_right ml 1⟩
theorem FW.begun {t1 : Addr} {i1 : Int} (N : FNe B d e e2) (w : FW C B H f d ad e e2 bn n k) (ht1 : H t1 = some (.tup [.str ad, .int i1])) : FW C B (upd H d.bg (.lst [.ref t1])) f d ad e e2 bn n k := by
 obtain ⟨b, ⟨dx, fs, hf, ff⟩, hl, ⟨kvs, he, tb⟩, re, er, en, ⟨t, i, hb, ht⟩, ms, t0, hv, h0, ev, ml⟩ := w
 have sb : SameBut d.bg H (upd H d.bg (.lst [.ref t1])) := fun b o h hb => by rw [aA hb]; exact h
 have st : ∀ b ys, H b = some (.tup ys) -> upd H d.bg (.lst [.ref t1]) b = some (.tup ys) := fun b xs h => sb _ _ h (aF h hb Z6)
 exact ⟨fun a o h => sb _ _ (b a o h) (ak h N.bb), ⟨dx, fs, sb _ _ hf (aF hf hb Z6), ff⟩, sb _ _ hl (aF hl hb Z6), ⟨kvs, sb _ _ he (aF he hb Z6), tb.same st⟩, sb _ _ re (aF re hb Z6), sb _ _ er (aF er hb Z6), sb _ _ en N.n1, ⟨t1, i1, ao, st _ _ ht1⟩, ms, t0, sb _ _ hv N.n3.symm, st _ _ h0, ev.same st, ml⟩
theorem FW.bind {kvs : List (Key × V)} {nm : Str} {v : V} {b : BV} (N : FNe B d e e2) (w : FW C B H f d ad e e2 bn n k) (he0 : H e = some (.dK kvs)) (hn : bn.lookup nm = none) (hv0 : lR H ad nm b v) : FW C B (upd H e (.dK (putK kvs (.inr nm) v))) f d ad e e2 (bn ++ [(nm, b)]) n k := by
 obtain ⟨bs, ⟨dx, fs, hf, ff⟩, hl, ⟨kvs', he, tb⟩, re, er, en, ⟨t, i, hb, ht⟩, ms, t0, hv, h0, ev, ml⟩ := w
 rw [he] at he0
 cases he0
 have sb : SameBut e H (upd H e (.dK (putK kvs (.inr nm) v))) := fun b o h hb => by rw [aA hb]; exact h
 have st : ∀ b ys, H b = some (.tup ys) -> upd H e (.dK (putK kvs (.inr nm) v)) b = some (.tup ys) := fun b xs h => sb _ _ h (aF h he Z6)
 refine ⟨fun a o h => sb _ _ (bs a o h) (ak h N.be), ⟨dx, fs, sb _ _ hf (aF hf he Z6), ff⟩, sb _ _ hl N.h2, ⟨_, ao, ?_⟩, sb _ _ re N.r1, sb _ _ er N.x.symm, sb _ _ en (aF en he Z6), ⟨t, i, sb _ _ hb (aF hb he Z6), st _ _ ht⟩, ms, t0, sb _ _ hv (aF hv he Z6), st _ _ h0, ev.same st, ml⟩
 have tb' := (Tbl.snoc hv0 tb).same st
 rw [<- tK v (tb.no hn)] at tb'
 exact tb'
theorem FW.st {l : Addr} {rs : List bF} (N : FNe B d e e2) (w : FW C B H f d ad e e2 bn n k) (hh : cQ C B d.h l [⟨[ad], rs⟩]) (hok : fH [⟨[ad], rs⟩]) (dd : JR bn rs) : vX C (ers H d.ev) f d ad bn := by
 obtain ⟨bs, ⟨dx, fs, hf, ff⟩, hl, ⟨kvs, he, tb⟩, re, er, en, ⟨t, i, hb, ht⟩, ms, t0, hv, h0, ev, ml⟩ := w
 refine ⟨⟨dx, fs, nA hf (aF hf hv Z6), ff⟩, ⟨_, kvs, e, nA hl (aF hl hv Z6), cB rfl, nA he (aF he hv Z6), fun nm b hb => ?_⟩, ⟨t, i, nA hb N.n3, nA ht (aF ht hv Z6)⟩, ul, l, rs, hh.same (zc bs N.bv), hok, dd⟩
 exact Tbl.get (tb.same fun b xs h => nA h (aF h hv Z6)) hb
end
structure FFu (C : Nat -> Addr) (H : Hp) (f : Addr) (d : FlD) (ad : Str) (bn : Bn) : Prop where
 fl : bY C H f d
 en : H d.en = some (.lst [.str ad])
 hl : ∃ e kvs, H d.hl = some (.dK [(.inr ad, .ref e)]) /\ H e = some (.dK kvs) /\ Tbl (lR H ad) kvs bn
 re : ∃ e, H d.re = some (.dK [(.inr ad, .ref e)]) /\ H e = some (.dK [])
def vM (H : Hp) (ad : Str) (xs : List V) (n : Nat) : Prop := ∃ ms t0 t1, xs = .ref t0 :: ms ++ [.ref t1] /\ H t0 = some (.tup [.str "begin", .str ad]) /\ H t1 = some (.tup [.str "end", .str ad]) /\ Evs H ad xs n /\ ms.length <= 2000
def oX (C : Nat -> Addr) : Sp := fun vs H Q _ => ∃ (B : Hp) (f : Addr) (d : FlD) (ad : Str) (rs : List bF) (l : Addr), vs = [.ref f, .str ad] /\ eZ ad /\ cQ C B d.h l [⟨[ad], rs⟩] /\ fH [⟨[ad], rs⟩] /\ mR rs /\ az B H /\ bY C H f d /\
 H d.hl = some (.dK []) /\ H d.re = some (.dK []) /\ H d.en = some (.lst []) /\ H d.bg = some (.lst []) /\ H d.ev = some (.lst []) /\ B d.hl = none /\ B d.re = none /\ B d.en = none /\ B d.bg = none /\ B d.ev = none /\ d.hl ≠ d.re /\ d.en ≠ d.bg /\ d.en ≠ d.ev /\ d.bg ≠ d.ev /\
 ∀ H' xs, az B H' -> FFu C H' f d ad (bB rs) -> H' d.ev = some (.lst xs) -> vM H' ad xs rs.length -> Q .non H'
theorem qT {ad : Str} (h : eZ ad) : oY [ad] := ⟨Z2, by show 1 <= 3; decide, fun y hy => by rw [mem_singleton.mp hy]; exact h⟩
theorem Gy {ad : Str} : rY [ad] = "" := if_pos rfl
theorem HB {H : Hp} {ad : Str} {t0 : Addr} (h : H t0 = some (.tup [.str "begin", .str ad])) : Evs H ad [.ref t0] 0 := by
 refine ⟨[none], rfl, fun i v e => ?_, rfl⟩
 cases i with
 | zero => cases e; exact ⟨none, rfl, t0, "begin", _, rfl, h, Z4⟩
 | succ i => cases e
theorem FW.le {C : Nat -> Addr} {B H : Hp} {f : Addr} {d : FlD} {ad : Str} {e e2 : Addr} {bn : Bn} {n k m : Nat} (w : FW C B H f d ad e e2 bn n k) (h : k <= m) : FW C B H f d ad e e2 bn n m := by
 obtain ⟨b, fl, hl, eh, re, er, en, bg, ms, t0, hv, h0, ev, ml⟩ := w
 exact ⟨b, fl, hl, eh, re, er, en, bg, ms, t0, hv, h0, ev, le_trans ml h⟩
theorem ux : ∀ (rs : List bF) (bn : Bn), (rs.foldl bR bn).length <= bn.length + rs.length
 | [], bn => le_refl _
 | r :: rs, bn => by
  have h := ux rs (bR bn r)
  have : (bR bn r).length <= bn.length + 1 := by
   unfold bR
   by_cases e : r.nm = ""
   ·rw [if_pos e]; omega
   ·rw [if_neg e, length_append]; exact le_refl _
  show (rs.foldl bR (bR bn r)).length <= _
  rw [length_cons]
  omega
theorem yx (rs : List bF) : (bB rs).length <= rs.length := by
 have := ux rs []
 rw [List.length_nil, Nat.zero_add] at this
 exact this
def Fq (ys : List Str) : List Str := (List.range ys.length).map fun i => dotted (ys.take (i + 1))
theorem Jd : ∀ m ∈ Jo, ¬ m = ("house" : Str) /\ ¬ m = ("held" : Str) /\ ¬ m = ("reach" : Str) /\ ¬ m = ("ended" : Str) /\ ¬ m = ("begun" : Str) /\ ¬ m = ("events" : Str) := by decide +kernel
structure Oq (H0 H H' : Hp) (x l : Addr) (o o2 : HO) : Prop where
 sb : SameBut x H0 H'
 hx : H' x = some o2
 hl : H' l = some o
 ne : l ≠ x
 f : H0 l = none
 g : H l = none
 s : SameBut x H H'
theorem DK {H0 H : Hp} {x l : Addr} {o o1 o2 : HO} (sb : SameBut x H0 H) (hx : H x = some o1) (hl : H l = none) : Oq H0 H (upd (upd H l o) x o2) x l o o2 := by
 have ne : l ≠ x := (ak hx hl).symm
 refine ⟨fun b p e hb => by rw [aA hb, aA (ak (sb b p e hb) hl)]; exact sb b p e hb, ao, by rw [aA ne]; exact ao, ne, ?_, hl, sb2 hl⟩
 cases e : H0 l with
 | none => rfl
 | some p => have := sb l p e ne; rw [hl] at this; cases this
structure Lj (C : Nat -> Addr) (H H' : Hp) (x : Addr) (d : FlD) (h : Addr) : Prop where
 h : d.h = h
 sb : SameBut x H H'
 fl : bY C H' x d
 hl : H' d.hl = some (.dK [])
 re : H' d.re = some (.dK [])
 en : H' d.en = some (.lst [])
 bg : H' d.bg = some (.lst [])
 ev : H' d.ev = some (.lst [])
 f1 : H d.hl = none
 f2 : H d.re = none
 f3 : H d.en = none
 f4 : H d.bg = none
 f5 : H d.ev = none
 n1 : d.hl ≠ d.re
 n2 : d.en ≠ d.bg
 n3 : d.en ≠ d.ev
 n4 : d.bg ≠ d.ev
def vY (C : Nat -> Addr) : Sp := fun vs H Q _ => ∃ (x dx h : Addr), vs = [.ref x, .ref h] /\ H x = some (.ins (C 9) dx []) /\ ∀ d H', Lj C H H' x d h -> Q .non H'
structure FEm (C : Nat -> Addr) (H : Hp) (f : Addr) (d : FlD) : Prop where
 fl : bY C H f d
 hl : H d.hl = some (.dK [])
 re : H d.re = some (.dK [])
 en : H d.en = some (.lst [])
structure nD (C : Nat -> Addr) (H H' : Hp) (f : Addr) (d : FlD) (h : Addr) : Prop where
 h : d.h = h
 s : az H H'
 fl : bY C H' f d
 bg : H' d.bg = some (.lst [])
 ev : H' d.ev = some (.lst [])
 f0 : H f = none
 f1 : H d.hl = none
 f2 : H d.re = none
 f3 : H d.en = none
 f4 : H d.bg = none
 f5 : H d.ev = none
 n1 : d.hl ≠ d.re
 n2 : d.en ≠ d.bg
 n3 : d.en ≠ d.ev
 n4 : d.bg ≠ d.ev
def uz (C : Nat -> Addr) : Sp := fun vs H Q _ => ∃ (f : Addr) (d : FlD), vs = [.ref f] /\ ((FEm C H f d /\ ∀ f2 d2 H', nD C H H' f2 d2 d.h -> FEm C H' f2 d2 -> Q (.ref f2) H') \/ (∃ ad bn, FFu C H f d ad bn /\ ∀ f2 d2 H', nD C H H' f2 d2 d.h -> FFu C H' f2 d2 ad bn -> Q (.ref f2) H'))
def o7 (C : Nat -> Addr) : Sp := fun vs H Q _ => ∃ (B : Hp) (f : Addr) (d : FlD) (ad : Str) (rs : List bF) (l : Addr), vs = [.ref f, .str ad] /\ eZ ad /\ cQ C B d.h l [⟨[ad], rs⟩] /\ fH [⟨[ad], rs⟩] /\ mR rs /\ az B H /\ bY C H f d /\
 H d.bg = some (.lst []) /\ H d.ev = some (.lst []) /\ B d.hl = none /\ B d.re = none /\ B d.en = none /\ B d.bg = none /\ B d.ev = none /\ d.hl ≠ d.re /\ d.en ≠ d.bg /\ d.en ≠ d.ev /\ d.bg ≠ d.ev /\
 ((FEm C H f d /\ ∀ H' xs, az B H' -> FFu C H' f d ad (bB rs) -> H' d.ev = some (.lst xs) -> vM H' ad xs rs.length -> Q .non H') \/
  (∃ bn, FFu C H f d ad bn /\ ∀ t H', az B H' -> FFu C H' f d ad bn -> H' d.ev = some (.lst [.ref t]) -> H' t = some (.tup [.str "there", .str ad]) -> Q .non H'))
section
variable {C : Nat -> Addr} {H H1 H2 H3 : Hp} {x : Addr} {d : FlD} {h : Addr}
theorem Bs {dx : Addr} (hx : H x = none) (hd : H dx = none) (w : Lj C (upd (upd H dx (.own x)) x (.ins (C 9) dx [])) H1 x d h) : nD C H H1 x d h := by
 have un : ∀ {b}, upd (upd H dx (.own x)) x (.ins (C 9) dx []) b = none -> H b = none := fun e => (jb (jb e).1).1
 exact ⟨w.h, fun b o e => w.sb b o (by rw [aA (ak e hx), aA (ak e hd)]; exact e) (ak e hx), w.fl, w.bg, w.ev, hx, un w.f1, un w.f2, un w.f3, un w.f4, un w.f5, w.n1, w.n2, w.n3, w.n4⟩
theorem nD.go (c : nD C H H2 x d h) (s : az H2 H3) : nD C H H3 x d h := by
 obtain ⟨dx, fs, hf, ff⟩ := c.fl
 exact ⟨c.h, c.s.trans s, ⟨dx, fs, s _ _ hf, ff⟩, s _ _ c.bg, s _ _ c.ev, c.f0, c.f1, c.f2, c.f3, c.f4, c.f5, c.n1, c.n2, c.n3, c.n4⟩
theorem nD.but {a : Addr} {ks : List (Key × V)} (c : nD C H H2 x d h) (sb : SameBut a H2 H3) (ha : H2 a = some (.dK ks)) (h0 : H a = none) : nD C H H3 x d h := by
 obtain ⟨dx, fs, hf, ff⟩ := c.fl
 exact ⟨c.h, fun b o e => sb _ _ (c.s _ _ e) (ak e h0), ⟨dx, fs, sb _ _ hf (aF hf ha Z6), ff⟩, sb _ _ c.bg (aF c.bg ha Z6), sb _ _ c.ev (aF c.ev ha Z6), c.f0, c.f1, c.f2, c.f3, c.f4, c.f5, c.n1, c.n2, c.n3, c.n4⟩
theorem Cg {dx l : Addr} {fs : List (Str × V)} {ys : List V} (c : nD C H H2 x d h) (hx : H2 x = some (.ins (C 9) dx fs)) (ff : Mv fs d) (hl : H2 l = none) : nD C H (upd (upd H2 l (.lst ys)) x (.ins (C 9) dx (aX "ended" (.ref l) fs))) x { d with en := l } h := by
 have sb : SameBut x H2 (upd (upd H2 l (.lst ys)) x (.ins (C 9) dx (aX "ended" (.ref l) fs))) := sb2 hl
 refine ⟨c.h, fun b o e => sb _ _ (c.s _ _ e) (ak e c.f0), ⟨dx, _, ao, ?_⟩, sb _ _ c.bg (aF c.bg hx Z6), sb _ _ c.ev (aF c.ev hx Z6), c.f0, c.f1, c.f2, c.s.free hl, c.f4, c.f5, c.n1, (ak c.bg hl).symm, (ak c.ev hl).symm, c.n4⟩
 refine ⟨(lkN Z4).trans ff.h, (lkN Z4).trans ff.hl, (lkN Z4).trans ff.re, lkP, (lkN Z4).trans ff.bg, (lkN Z4).trans ff.ev, fun m hm => (lkN (Jd m hm).2.2.2.1).trans (ff.me m hm), by rw [qx ff.en]; exact ff.ln⟩
end
def Jp : List Str := ["draw", "filled", "has_filled", "check_filled", "names", "means", "touched"]
theorem GQ : ∀ m ∈ Jp, ¬ m = ("house" : Str) /\ ¬ m = ("stand" : Str) /\ ¬ m = ("drawn" : Str) := by decide +kernel
structure JV (fs : List (Str × V)) (h f dr : Addr) : Prop where
 h : fs.lookup ("house" : Str) = some (.ref h)
 st : fs.lookup ("stand" : Str) = some (.ref f)
 dr : fs.lookup ("drawn" : Str) = some (.ref dr)
 me : ∀ m ∈ Jp, fs.lookup m = none
 nh : fs.lookup ("held" : Str) = none
 ln : fs.length < 10
def oU (C : Nat -> Addr) (H : Hp) (s h f dr : Addr) : Prop := ∃ dx fs, H s = some (.ins (C 10) dx fs) /\ JV fs h f dr
theorem Mq {C : Nat -> Addr} {H : Hp} {s h f g dr : Addr} {d : FlD} (a : oU C H s h f dr) (b : bY C H g d) : g ≠ s := by
 obtain ⟨dx, fs, hs, sf⟩ := a
 obtain ⟨dy, gs, hg, gf⟩ := b
 rintro rfl
 rw [hs] at hg
 have e : fs = gs := by injection hg with z; injection z
 subst e
 have := gf.hl
 rw [sf.nh] at this
 cases this
def Bh (C : Nat -> Addr) : Sp := fun vs H Q _ => ∃ (x dx h : Addr), vs = [.ref x, .ref h] /\ H x = some (.ins (C 10) dx []) /\ ∀ f d dr H', d.h = h -> SameBut x H H' -> oU C H' x h f dr -> FEm C H' f d -> H' dr = some (.lst []) -> H f = none -> H dr = none -> H d.en = none -> dr ≠ d.en -> Q .non H'
def pU (C : Nat -> Addr) : Sp := fun vs H Q _ => ∃ (s h f dr : Addr) (d : FlD) (xs : List V), vs = [.ref s] /\ oU C H s h f dr /\ bY C H f d /\ H d.en = some (.lst xs) /\ ∀ l, H l = none -> Q (.ref l) (upd H l (.lst xs))
def jD (C : Nat -> Addr) : Sp := fun vs H Q _ => ∃ (s h f dr : Addr) (d : FlD) (ad : Str), vs = [.ref s, .str ad] /\ oU C H s h f dr /\ bY C H f d /\ ((H d.en = some (.lst []) /\ Pur (.bl false) H Q) \/ (H d.en = some (.lst [.str ad]) /\ Pur (.bl true) H Q))
def iu (C : Nat -> Addr) : Sp := fun vs H Q _ => ∃ (s h f dr : Addr) (d : FlD) (ad : Str), vs = [.ref s, .str ad] /\ oU C H s h f dr /\ bY C H f d /\ H d.en = some (.lst [.str ad]) /\ Pur .non H Q
theorem bY.same {C : Nat -> Addr} {H H' : Hp} {f : Addr} {d : FlD} (h : bY C H f d) (s : az H H') : bY C H' f d := by
 obtain ⟨dx, fs, e, ff⟩ := h
 exact ⟨dx, fs, s _ _ e, ff⟩
theorem oU.same {C : Nat -> Addr} {H H' : Hp} {s h f dr : Addr} (x : oU C H s h f dr) (e : az H H') : oU C H' s h f dr := by
 obtain ⟨dx, fs, a, ff⟩ := x
 exact ⟨dx, fs, e _ _ a, ff⟩
theorem FFu.same {C : Nat -> Addr} {H H' : Hp} {f : Addr} {d : FlD} {ad : Str} {bn : Bn} (x : FFu C H f d ad bn) (s : az H H') : FFu C H' f d ad bn := by
 obtain ⟨e, kvs, a, b, c⟩ := x.hl
 obtain ⟨e', a', b'⟩ := x.re
 exact ⟨x.fl.same s, s _ _ x.en, ⟨e, kvs, s _ _ a, s _ _ b, c.same fun b xs h => s _ _ h⟩, e', s _ _ a', s _ _ b'⟩
def lF (H : Hp) (ad : Str) (bn : Bn) (as : List Addr) : Prop := as.length = bn.length /\ ∀ (i : Nat) nm b, bn[i]? = some (nm, b) -> ∃ a v, as[i]? = some a /\ H a = some (.tup [.str nm, v]) /\ lR H ad nm b v
theorem lF.same {H H' : Hp} {ad : Str} {bn : Bn} {as : List Addr} (h : lF H ad bn as) (s : az H H') : lF H' ad bn as := ⟨h.1, fun i nm b e => by
 obtain ⟨a, v, x, y, z⟩ := h.2 i nm b e
 exact ⟨a, v, x, s _ _ y, z.same s⟩⟩
def rn (C : Nat -> Addr) : Sp := fun vs H Q _ => ∃ (s h f dr : Addr) (d : FlD) (ad : Str) (bn : Bn), vs = [.ref s, .str ad] /\ oU C H s h f dr /\ FFu C H f d ad bn /\ ∀ l as H', H l = none -> az H H' -> H' l = some (.lst (as.map V.ref)) -> lF H' ad bn as -> Q (.ref l) H'
def vd (C : Nat -> Addr) : Sp := fun vs H Q _ => ∃ (s h f dr : Addr) (d : FlD) (ad nm : Str) (bn : Bn) (b : BV), vs = [.ref s, .str ad, .str nm] /\ oU C H s h f dr /\ FFu C H f d ad bn /\ bn.lookup nm = some b /\ ∀ v H', az H H' -> lR H' ad nm b v -> Q v H'
def rK (C : Nat -> Addr) : Sp := fun vs H Q _ => ∃ (s h f dr : Addr) (d : FlD) (ad : Str) (bn : Bn), vs = [.ref s, .str ad] /\ oU C H s h f dr /\ FFu C H f d ad bn /\ ∀ l H', H l = none -> az H H' -> H' l = some (.lst []) -> Q (.ref l) H'
structure Drn (C : Nat -> Addr) (H H' : Hp) (s h dr : Addr) (xs : List V) (f2 : Addr) (d2 : FlD) : Prop where
 eh : d2.h = h
 sb : ∀ b o, H b = some o -> b ≠ s -> b ≠ dr -> H' b = some o
 sh : oU C H' s h f2 dr
 xv : ∃ v, H' dr = some (.lst (xs ++ [v]))
 f0 : H f2 = none
 f1 : H d2.en = none
 ne : d2.en ≠ dr
def yh (C : Nat -> Addr) : Sp := fun vs H Q _ => ∃ (B : Hp) (s h f dr : Addr) (d : FlD) (ad : Str) (rs : List bF) (l : Addr) (xs : List V), vs = [.ref s, .str ad] /\ eZ ad /\ cQ C B h l [⟨[ad], rs⟩] /\ fH [⟨[ad], rs⟩] /\ mR rs /\ az B H /\ B s = none /\ B dr = none /\ d.h = h /\ oU C H s h f dr /\ H dr = some (.lst xs) /\ xs.length < 1000 /\
 ((FEm C B f d /\ ∀ f2 d2 lg ys H', Drn C H H' s h dr xs f2 d2 -> FFu C H' f2 d2 ad (bB rs) -> H lg = none -> H' lg = some (.lst ys) -> vM H' ad ys rs.length -> Q (.ref lg) H') \/
  (∃ bn, FFu C B f d ad bn /\ ∀ f2 d2 lg t H', Drn C H H' s h dr xs f2 d2 -> FFu C H' f2 d2 ad bn -> H lg = none -> H' lg = some (.lst [.ref t]) -> H' t = some (.tup [.str "there", .str ad]) -> Q (.ref lg) H'))
theorem Bg {nm : Str} {b : BV} : ∀ {bn : Bn} {i : Nat}, bn[i]? = some (nm, b) -> (∀ (j : Nat) p, j < i -> bn[j]? = some p -> ¬ p.1 = nm) -> bn.lookup nm = some b
 | [], _, h, _ => by cases h
 | (n, c) :: bn, 0, h, _ => by
  cases h
  exact lookup_cons_self
 | (n, c) :: bn, i + 1, h, g => by
  have k : ¬ n = nm := g 0 (n, c) (Nat.succ_pos _) rfl
  rw [lookup_cons, show (nm == n) = false from beq_eq_false_iff_ne.mpr fun z => k z.symm]
  exact Bg (bn := bn) (i := i) h fun j p hj e => g (j + 1) p (Nat.succ_lt_succ hj) e
theorem vD {nm : Str} : ∀ {bn : Bn}, (∀ (j : Nat) p, bn[j]? = some p -> ¬ p.1 = nm) -> bn.lookup nm = none
 | [], _ => rfl
 | (n, c) :: bn, g => by
  have k : ¬ n = nm := g 0 (n, c) rfl
  rw [lookup_cons, show (nm == n) = false from beq_eq_false_iff_ne.mpr fun z => k z.symm]
  exact vD (bn := bn) fun j p e => g (j + 1) p e
theorem FEm.same {C : Nat -> Addr} {H H' : Hp} {f : Addr} {d : FlD} (x : FEm C H f d) (s : az H H') : FEm C H' f d := ⟨x.fl.same s, s _ _ x.hl, s _ _ x.re, s _ _ x.en⟩
theorem vM.same {H H' : Hp} {ad : Str} {xs : List V} {n : Nat} (h : vM H ad xs n) (s : ∀ b zs, H b = some (.tup zs) -> H' b = some (.tup zs)) : vM H' ad xs n := by
 obtain ⟨ms, t0, t1, e, a, b, c, l⟩ := h
 exact ⟨ms, t0, t1, e, s _ _ a, s _ _ b, c.same s, l⟩
theorem FFu.but {C : Nat -> Addr} {H H' : Hp} {f : Addr} {d : FlD} {ad : Str} {bn : Bn} {a : Addr} {o : HO} (x : FFu C H f d ad bn) (s : SameBut a H H') (ha : H a = some o) (ho : (∃ xs, o = .lst xs) \/ ∃ c dx fs, o = .ins c dx fs) (h1 : f ≠ a) (h2 : d.en ≠ a) : FFu C H' f d ad bn := by
 have td : ∀ b zs, H b = some (.tup zs) -> H' b = some (.tup zs) := fun b zs h => s _ _ h (aF h ha (by rcases ho with ⟨_, rfl⟩ | ⟨_, _, _, rfl⟩ <;> intro z <;> cases z))
 have dd : ∀ {b zs}, H b = some (.dK zs) -> H' b = some (.dK zs) := fun h => s _ _ h (aF h ha (by rcases ho with ⟨_, rfl⟩ | ⟨_, _, _, rfl⟩ <;> intro z <;> cases z))
 obtain ⟨e, kvs, p, q, c⟩ := x.hl
 obtain ⟨e', p', q'⟩ := x.re
 obtain ⟨dx, fs, hf, ff⟩ := x.fl
 exact ⟨⟨dx, fs, s _ _ hf h1, ff⟩, s _ _ x.en h2, ⟨e, kvs, dd p, dd q, c.same td⟩, e', dd p', dd q'⟩
def vP : Sp := fun vs H Q _ => ∃ c : Int, vs = [.int c, .int 26] /\ ∀ l H' (zs : List Str), H l = none -> az H H' -> zs.length = 26 -> zs.Nodup -> (∀ z ∈ zs, eZ z) -> H' l = some (.lst (zs.map V.str)) -> Q (.ref l) H'
theorem Jq {bs : List Int} {m one two : Nat} (h : pN bs) (hm : m <= bs.length) (h1 : one < m) (hne : two ≠ one) {zs : List Str} (hz : ∀ j : Nat, j < 26 -> jO (nF bs m one two (0 + (j : Int))) ∈ zs) : 26 <= zs.length := by
 have key : ∀ n : Int, (nF bs m one two n)[one]? = some ((bs.getD one 0 + n) % 26) := fun n => by
  unfold nF
  rw [getElem?_set_ne hne, getElem?_set_self (by rw [length_take]; omega)]
 have nd : ((List.range 26).map fun j : Nat => jO (nF bs m one two (0 + (j : Int)))).Nodup := by
  refine List.pairwise_map.mpr (imp_of_mem (fun {a b} ha hb hlt e => ?_) List.pairwise_lt_range)
  have := K6 e (vZ h _ _ _ _) (vZ h _ _ _ _) (key _) (key _)
  have := mem_range.mp ha
  have := mem_range.mp hb
  omega
 have := vh _ zs nd fun x hx => by
  obtain ⟨j, hj, rfl⟩ := mem_map.mp hx
  exact hz j (mem_range.mp hj)
 rwa [length_map, length_range] at this
def Fb : List Str := ["let", "be", "as", "draw", "late", "take", "from", "need", "deed", "part"]
theorem J2 : ∀ z ∈ Fb, eZ z := fun z hz => by
 simp only [Fb, mem_cons, not_mem_nil, or_false] at hz
 rcases hz with rfl | rfl | rfl | rfl | rfl | rfl | rfl | rfl | rfl | rfl
 all_goals exact Br Z4
theorem Kh : Fb.Nodup := by decide +kernel
theorem FP {X : Cx} {f : Value -> Value -> Sem Value} {r1 r2 : R2} (a : OpR X f r1) (b : OpR X f r2) : OpR X f (fun x y H Q => r1 x y H Q \/ r2 x y H Q) := fun pins s σ H x y v u Q I rx ry h =>
 h.elim (fun h => a pins s σ H x y v u Q I rx ry h) (fun h => b pins s σ H x y v u Q I rx ry h)
def KnV (H : Hp) (b : BV) (v : V) : Prop := match b with
 | .num n => v = .int n
 | .deed ts => ∃ l, v = .ref l /\ fO H l ts
theorem KnV.same {H H' : Hp} {b : BV} {v : V} (h : KnV H b v) (s : az H H') : KnV H' b v := by
 cases b with
 | num n => exact h
 | deed ts => obtain ⟨l, e, t⟩ := h; exact ⟨l, e, t.same s⟩
def wk (H : Hp) (kd : Addr) (bn : Bn) : Prop := ∃ kvs, H kd = some (.dK kvs) /\ Tbl (fun _ b v => KnV H b v) kvs bn
theorem wk.same {H H' : Hp} {kd : Addr} {bn : Bn} (h : wk H kd bn) (s : az H H') : wk H' kd bn := by
 obtain ⟨kvs, e, t⟩ := h
 exact ⟨kvs, s _ _ e, t.mono fun _ _ _ r => r.same s⟩
def qt (bn : Bn) (z : Str) : Bool := match bn.lookup z with
 | some (.deed _) => true
 | _ => false
def smP (bn : Bn) (b : Bool) : V -> Bool
 | .str z => decide (qt bn z = b)
 | _ => false
theorem Tbl.key {R : Str -> BV -> V -> Prop} {k : V} : ∀ {kvs : List (Key × V)} {bn : Bn}, Tbl R kvs bn -> k ∈ kvs.map (fun kv => kV kv.1) -> ∃ nm b, k = .str nm /\ bn.lookup nm = some b
 | [], [], _, h => by cases h
 | p :: kvs, (n, c) :: bn, ⟨e, _, t⟩, h => by
  rcases mem_cons.mp h with h | h
  ·exact ⟨n, c, by rw [h]; show kV p.1 = _; rw [e]; rfl, lookup_cons_self⟩
  ·obtain ⟨nm, b, e1, e2⟩ := Tbl.key t h
   by_cases k : nm = n
   ·exact ⟨nm, c, e1, by rw [k]; exact lookup_cons_self⟩
   ·exact ⟨nm, b, e1, by rw [lookup_cons, show (nm == n) = false from beq_eq_false_iff_ne.mpr k]; exact e2⟩
def zf : Sp := fun vs H Q _ => ∃ (kd : Addr) (bn : Bn) (so : Str) (c k : Int), vs = [.ref kd, .str so, .int c, .int k] /\ wk H kd bn /\ bn.length <= 12 /\ 0 <= k /\ k < 40 /\
 ∀ (z : Str) H', az H H' -> (z = "" \/ ∃ b, bn.lookup z = some b /\ qt bn z = decide (so = "deed")) -> Q (.str z) H'
theorem GR {H H' : Hp} {p : Addr} {xs : List V} {v : V} {t : Trm} (h : qM H v t) (hp : H p = some (.lst xs)) (s : SameBut p H H') : qM H' v t := by
 obtain ⟨q, x, e, hq, hx⟩ := h
 refine ⟨q, x, e, s _ _ hq (aF hq hp Z6), ?_⟩
 cases hh : t.th with
 | num m => rw [hh] at hx; exact hx
 | nms c ys => rw [hh] at hx; obtain ⟨r, e, hr⟩ := hx; exact ⟨r, e, s _ _ hr (aF hr hp Z6)⟩
theorem Gr {H : Hp} {p : Addr} {xs : List V} {ts : List Trm} {v : V} {t : Trm} (h : fO H p ts) (hp : H p = some (.lst xs)) (tm : qM H v t) : fO (upd H p (.lst (xs ++ [v]))) p (ts ++ [t]) := by
 have sb : SameBut p H (upd H p (.lst (xs ++ [v]))) := fun b o h hb => by rw [aA hb]; exact h
 obtain ⟨ys, e, ln, hx⟩ := h
 rw [e] at hp
 cases hp
 refine ⟨_, ao, by rw [length_append, length_append, ln]; rfl, fun i x ex => ?_⟩
 rcases lt_or_ge i xs.length with k | k
 ·rw [getElem?_append_left k] at ex
  obtain ⟨u, eu, tu⟩ := hx i x ex
  exact ⟨u, by rw [getElem?_append_left Z1]; exact eu, GR tu e sb⟩
 ·rw [getElem?_append_right k] at ex
  rw [getElem?_append_right Z1, <- ln]
  cases hj : i - xs.length with
  | zero => rw [hj] at ex; cases ex; exact ⟨t, rfl, GR tm e sb⟩
  | succ j => rw [hj] at ex; cases ex
structure JS (bn : Bn) (b : Bool) (t : Trm) : Prop where
 g : zm t
 t1 : Ty1 bn t.th
 t0 : b = false -> Ty0 bn t.th
def vR : Sp := fun vs H Q _ => ∃ (kd : Addr) (bn : Bn) (c : Int) (b : Bool), vs = [.ref kd, .int c, .bl b] /\ wk H kd bn /\ bn.length <= 12 /\ (∀ (nm : Str) b, bn.lookup nm = some b -> eZ nm) /\
 ∀ l ts H', H l = none -> az H H' -> fO H' l ts -> lL ts -> (∀ t ∈ ts, Ty1 bn t.th) -> (b = false -> ∀ t ∈ ts, Ty0 bn t.th) -> Q (.ref l) H'
theorem J9 {A : Type} {P T : A -> Prop} {G : Prop} (h : (∀ a, P a -> T a) -> G) (k : ∀ a, P a -> T a) : G := h k
theorem Ag {T X : Prop} (h : T -> X) (k : T) : X := h k
def GC : Sp := fun vs H Q _ => ∃ (kd : Addr) (bn : Bn) (l : Addr) (ts : List Trm), vs = [.ref kd, .ref l] /\ wk H kd bn /\ fO H l ts /\ lL ts /\ (∀ t ∈ ts, Ty0 bn t.th) /\ ∀ H', az H H' -> Q (.int (uV bn ts)) H'
def Cr : Sp := fun vs H Q _ => ∃ (kd : Addr) (bn : Bn) (l : Addr) (ts : List Trm), vs = [.ref kd, .ref l] /\ wk H kd bn /\ fO H l ts /\ lL ts /\ (∀ t ∈ ts, Ty1 bn t.th) /\ (∀ nm us, bn.lookup nm = some (.deed us) -> lL us /\ ∀ t ∈ us, Ty0 bn t.th) /\ ∀ H', az H H' -> Q (.int (oV bn ts)) H'
theorem Ba {H : Hp} {kd : Addr} {bn : Bn} {nm : Str} {b : BV} (k : wk H kd bn) (h : bn.lookup nm = some b) : ∃ v, gK H kd (.str nm) (some v) /\ KnV H b v := by
 obtain ⟨kvs, e, t⟩ := k
 obtain ⟨v, ev, r⟩ := t.get h
 exact ⟨v, ev ▸ gK.k (k := .inr nm) e, r⟩
theorem xY {X : Cx} {K : Frag} (h : X.K = K) : jg X (.builtin "isinstance") (Ey K) := by subst h; exact jH
structure E3 where
 lr : Addr
 kd : Addr
 ld : Addr
def er3 (H : Hp) (e : E3) : Hp := fun b => if b = e.lr \/ b = e.kd \/ b = e.ld then none else H b
section
variable {H H2 H3 : Hp} {e : E3}
theorem xU : er3 H e e.lr = none := if_pos (.inl rfl)
theorem xu : er3 H e e.kd = none := if_pos (.inr (.inl rfl))
theorem wI : er3 H e e.ld = none := if_pos (.inr (.inr rfl))
theorem zM {b : Addr} {o : HO} (h : H b = some o) (n1 : b ≠ e.lr) (n2 : b ≠ e.kd) (n3 : b ≠ e.ld) : er3 H e b = some o := (if_neg (fun z => z.elim n1 fun z => z.elim n2 n3)).trans h
theorem yE {B : Hp} (s : az B H) (h1 : B e.lr = none) (h2 : B e.kd = none) (h3 : B e.ld = none) : az B (er3 H e) := fun b o k => zM (s b o k) (ak k h1) (ak k h2) (ak k h3)
def oH (e : E3) (H H' : Hp) : Prop := ∀ b o, H b = some o -> b ≠ e.lr -> b ≠ e.kd -> b ≠ e.ld -> H' b = some o
theorem az.but3 (s : az H H2) : oH e H H2 := fun b o h _ _ _ => s b o h
theorem oH.trans (a : oH e H H2) (b : oH e H2 H3) : oH e H H3 := fun x o h n1 n2 n3 => b x o (a x o h n1 n2 n3) n1 n2 n3
theorem wF {o : HO} : oH e H (upd H e.lr o) := fun b p h n1 _ _ => by rw [aA n1]; exact h
theorem Cz {o : HO} : oH e H (upd H e.kd o) := fun b p h _ n2 _ => by rw [aA n2]; exact h
theorem Bk {o : HO} : oH e H (upd H e.ld o) := fun b p h _ _ n3 => by rw [aA n3]; exact h
theorem oH.er (a : oH e H H2) : az (er3 H e) H2 := fun b o h => by
 unfold er3 at h
 by_cases k : b = e.lr \/ b = e.kd \/ b = e.ld
 ·rw [if_pos k] at h; cases h
 ·rw [if_neg k] at h; exact a b o h (fun z => k (.inl z)) (fun z => k (.inr (.inl z))) (fun z => k (.inr (.inr z)))
end
structure At3 (H : Hp) (e : E3) (xs : List V) (kvs : List (Key × V)) (as : List Addr) : Prop where
 r : H e.lr = some (.lst xs)
 k : H e.kd = some (.dK kvs)
 d : H e.ld = some (.lst (as.map V.ref))
theorem At3.same {H H' : Hp} {e : E3} {xs : List V} {kvs : List (Key × V)} {as : List Addr} (h : At3 H e xs kvs as) (s : az H H') : At3 H' e xs kvs as := ⟨s _ _ h.r, s _ _ h.k, s _ _ h.d⟩
section
variable {H H2 : Hp} {e : E3} {xs : List V} {kvs : List (Key × V)} {as : List Addr}
theorem At3.tup (a : At3 H e xs kvs as) {b : Addr} {ys : List V} (h : H b = some (.tup ys)) : er3 H e b = some (.tup ys) := zM h (aF h a.r Z6) (aF h a.k Z6) (aF h a.d Z6)
theorem At3.new (a : At3 H e xs kvs as) (s : az H H2) {b : Addr} {o : HO} (h0 : H b = none) (h : H2 b = some o) : er3 H2 e b = some o := zM h (ak a.r h0).symm (ak a.k h0).symm (ak a.d h0).symm
theorem At3.tms (a : At3 H e xs kvs as) (s : az H H2) {l : Addr} {ts : List Trm} (h0 : H l = none) (h : fO H2 l ts) : fO (er3 H2 e) l ts := by
 obtain ⟨ys, hl, ln, hx⟩ := h
 refine ⟨ys, a.new s h0 hl, ln, fun i x ex => ?_⟩
 obtain ⟨t, et, p, y, rfl, hp, hy⟩ := hx i x ex
 refine ⟨t, et, p, y, rfl, (a.same s).tup hp, ?_⟩
 cases hh : t.th with
 | num m => rw [hh] at hy; exact hy
 | nms c ys => rw [hh] at hy; obtain ⟨r, e, hr⟩ := hy; exact ⟨r, e, (a.same s).tup hr⟩
theorem At3.row (a : At3 H e xs kvs as) (s : az H H2) {C : Nat -> Addr} {x l : Addr} {r : bF} (hx : H x = none) (hl : H l = none) (h : gY C H2 x l r) : gY C (er3 H2 e) x l r := by
 obtain ⟨dx, fs, hr, f⟩ := h
 exact ⟨dx, fs, a.new s hx hr, f.nm, fun k => ⟨(f.tm k).1, a.tms s hl (f.tm k).2⟩, f.ad, f.wd, f.nb, f.na, f.ns⟩
end
def nw (H B : Hp) : Hp := fun b => match H b with
 | none => B b
 | some (.tup _) => B b
 | _ => none
section
variable {H B B2 : Hp}
theorem qy : az (nw H B) B := fun b o h => by
 unfold nw at h
 split at h
 ·exact h
 ·exact h
 ·cases h
theorem jy (s : az B B2) : az (nw H B) (nw H B2) := fun b o h => by
 unfold nw at h ⊢
 split at h
 ·exact s _ _ h
 ·exact s _ _ h
 ·cases h
theorem ug {b : Addr} {o : HO} (h0 : H b = none) (h : B b = some o) : nw H B b = some o := by unfold nw; rw [h0]; exact h
theorem uA {b : Addr} {ys : List V} (s : az H B) (h : B b = some (.tup ys)) : nw H B b = some (.tup ys) := by
 unfold nw
 split
 ·exact h
 ·exact h
 ·rename_i n1 n2
  cases e : H b with
  | none => exact absurd e n1
  | some o =>
   have := s b o e
   rw [h] at this
   cases this
   exact absurd e (n2 _)
theorem Gj (s : az H B) {l : Addr} {ts : List Trm} (h0 : H l = none) (h : fO B l ts) : fO (nw H B) l ts := by
 obtain ⟨ys, hl, ln, hx⟩ := h
 refine ⟨ys, ug h0 hl, ln, fun i x ex => ?_⟩
 obtain ⟨t, et, p, y, rfl, hp, hy⟩ := hx i x ex
 refine ⟨t, et, p, y, rfl, uA s hp, ?_⟩
 cases hh : t.th with
 | num m => rw [hh] at hy; exact hy
 | nms c ys => rw [hh] at hy; obtain ⟨r, e, hr⟩ := hy; exact ⟨r, e, uA s hr⟩
theorem zX (s : az H B) {C : Nat -> Addr} {x l : Addr} {r : bF} (hx : H x = none) (hl : H l = none) (h : gY C B x l r) : gY C (nw H B) x l r := by
 obtain ⟨dx, fs, hr, f⟩ := h
 exact ⟨dx, fs, ug hx hr, f.nm, fun k => ⟨(f.tm k).1, Gj s hl (f.tm k).2⟩, f.ad, f.wd, f.nb, f.na, f.ns⟩
end
def JN (C : Nat -> Addr) (H : Hp) (p : Addr) (ad : Str) (l : Addr) : Prop := ∃ dx fs, H p = some (.ins (C 7) dx fs) /\ fs.lookup ("address" : Str) = some (.str ad) /\ fs.lookup ("rows" : Str) = some (.ref l) /\ fs.lookup ("bound" : Str) = none /\ fs.lookup ("place_of" : Str) = none /\ fs.lookup ("text" : Str) = none
def yP (C : Nat -> Addr) : Sp := fun vs H Q _ => ∃ (x dx : Addr) (ad : Str) (d : Addr) (xs : List V), vs = [.ref x, .str ad, .ref d] /\ H x = some (.ins (C 7) dx []) /\ H d = some (.lst xs) /\
 ∀ l H', H l = none -> SameBut x H H' -> JN C H' x ad l -> H' l = some (.lst xs) -> Q .non H'
structure uY (C : Nat -> Addr) (H H' : Hp) (e : E3) (ad : Str) (zs : List Str) (i : Nat) (rs : List bF) (xs : List V) (kvs : List (Key × V)) (as : List Addr) (B : Hp) : Prop where
 hb : az H B
 s : az B H'
 b1 : B e.lr = none
 b2 : B e.kd = none
 b3 : B e.ld = none
 at3 : At3 H' e xs kvs as
 xl : xs.length = rs.length
 xr : ∀ (j : Nat) r, rs[j]? = some r -> ∃ a l, xs[j]? = some (.ref a) /\ gY C (nw H B) a l r
 tb : Tbl (fun _ b v => KnV (nw H B) b v) kvs (bB rs)
 pr : lF (nw H B) ad (bB rs) as
 ln : rs.length = i
 gr : ∀ r ∈ rs, GoodR r
 ok : mR rs
 nm : ∀ r ∈ rs, r.nm ≠ "" -> r.nm ∈ zs.take i
def xX (C : Nat -> Addr) : Sp := fun vs H Q _ => ∃ (lc ln : Addr) (cs : List Int) (zs : List Str) (ad : Str), vs = [.ref lc, .ref ln, .str ad] /\ H lc = some (.lst (cs.map V.int)) /\ cs.length <= 12 /\ H ln = some (.lst (zs.map V.str)) /\ cs.length <= zs.length /\ zs.Nodup /\ (∀ z ∈ zs, eZ z) /\ eZ ad /\
 ∀ t p lr ld as rs H', az H H' -> H' t = some (.tup [.ref p, .ref ld]) -> gO C (nw H H') p ad lr rs -> je rs -> mR rs -> nw H H' ld = some (.lst (as.map V.ref)) -> lF (nw H H') ad (bB rs) as -> Q (.ref t) H'
theorem dW {α : Type} {xs : List α} {x y : α} {i : Nat} (h : (xs ++ [x])[i]? = some y) : (i < xs.length /\ xs[i]? = some y) \/ (i = xs.length /\ y = x) := by
 rcases lt_or_ge i xs.length with k | k
 ·rw [getElem?_append_left k] at h; exact .inl ⟨k, h⟩
 ·rw [getElem?_append_right k] at h
  cases hj : i - xs.length with
  | zero => rw [hj] at h; exact .inr ⟨Z1, (Option.some.inj h).symm⟩
  | succ j => rw [hj] at h; cases h
theorem mR.snoc {rs : List bF} {r : bF} (g : mR rs) (ty : El (bB rs) r) (nw : r.nm ≠ "" -> ∀ r' ∈ rs, ¬ r'.nm = r.nm) : mR (rs ++ [r]) := by
 refine ⟨fun i r' h => ?_, fun i r' h hn j r2 hj h2 => ?_⟩
 ·rcases dW h with ⟨k, h⟩ | ⟨rfl, rfl⟩
  ·rw [List.take_append_of_le_length (le_of_lt k)]; exact g.ty i r' h
  ·rw [List.take_left]; exact ty
 ·rcases dW h with ⟨k, h⟩ | ⟨rfl, rfl⟩
  ·rcases dW h2 with ⟨k2, h2⟩ | ⟨rfl, rfl⟩
   ·exact g.nw i r' h hn j r2 hj h2
   ·omega
  ·rcases dW h2 with ⟨k2, h2⟩ | ⟨rfl, rfl⟩
   ·exact nw hn r2 (mem_of_getElem? h2)
   ·omega
theorem oh {α : Type} {xs : List α} {x : α} {i : Nat} (h : xs[i]? = some x) : xs.take (i + 1) = xs.take i ++ [x] := by rw [take_succ, h]; rfl
theorem Ci {zs : List Str} {z : Str} {i : Nat} (nd : zs.Nodup) (h : zs[i]? = some z) : z ∉ zs.take i := by
 have e := oh h
 have n := List.Pairwise.sublist (List.take_sublist (i + 1) zs) nd
 rw [e] at n
 exact fun k => (List.pairwise_append.mp n).2.2 z k z Z2 rfl
section
variable {C : Nat -> Addr} {H H' B B2 Hf : Hp} {e : E3} {ad : Str} {zs : List Str} {i : Nat} {rs : List bF} {xs : List V} {kvs : List (Key × V)} {as : List Addr}
theorem uY.add {r : bF} {a l : Addr} {kvs' : List (Key × V)} {as' : List Addr} {z : Str} (p : uY C H H' e ad zs i rs xs kvs as B) (sb : az B B2) (sf : az B2 Hf) (n1 : B2 e.lr = none) (n2 : B2 e.kd = none) (n3 : B2 e.ld = none) (a3 : At3 Hf e (xs ++ [.ref a]) kvs' as') (ra : gY C (nw H B2) a l r) (gr : GoodR r) (ty : El (bB rs) r)
  (nd : zs.Nodup) (hz : zs[i]? = some z) (hw : r.nm = "" \/ r.nm = z) (tb : Tbl (fun _ b v => KnV (nw H B2) b v) kvs' (bR (bB rs) r)) (pr : lF (nw H B2) ad (bR (bB rs) r) as') : uY C H Hf e ad zs (i + 1) (rs ++ [r]) (xs ++ [.ref a]) kvs' as' B2 := by
 refine ⟨p.hb.trans sb, sf, n1, n2, n3, a3, by rw [length_append, length_append, p.xl]; rfl, fun j r' h => ?_, by rw [oF]; exact tb, by rw [oF]; exact pr, by rw [length_append, p.ln]; rfl, fun r' h => ?_, p.ok.snoc ty fun hn r' h z' => ?_, fun r' h hn => ?_⟩
 ·rcases dW h with ⟨k, h⟩ | ⟨rfl, rfl⟩
  ·obtain ⟨b, m, e1, e2⟩ := p.xr j r' h
   exact ⟨b, m, by rw [getElem?_append_left (by rw [p.xl]; exact k)]; exact e1, e2.same (jy sb)⟩
  ·exact ⟨a, l, by rw [<- p.xl, getElem?_append_right (le_refl _), sub_self]; rfl, ra⟩
 ·rcases mem_append.mp h with k | k
  ·exact p.gr r' k
  ·rw [mem_singleton.mp k]; exact gr
 ·have k := p.nm r' h (by rw [z']; exact hn)
  rw [z', hw.resolve_left hn] at k
  exact Ci nd hz k
 ·rw [oh hz]
  rcases mem_append.mp h with k | k
  ·exact mem_append_left _ (p.nm r' k hn)
  ·rw [mem_singleton.mp k] at hn ⊢
   rw [hw.resolve_left hn]
   exact mem_append_right _ Z2
theorem uY.kn (p : uY C H H' e ad zs i rs xs kvs as B) : wk H' e.kd (bB rs) := ⟨kvs, p.at3.k, p.tb.mono fun _ _ _ r => r.same (qy.trans p.s)⟩
theorem uY.go (p : uY C H H' e ad zs i rs xs kvs as B) (s : az H' Hf) : uY C H Hf e ad zs i rs xs kvs as B := ⟨p.hb, p.s.trans s, p.b1, p.b2, p.b3, p.at3.same s, p.xl, p.xr, p.tb, p.pr, p.ln, p.gr, p.ok, p.nm⟩
end
section
variable {H H2 : Hp} {e : E3} {xs ys : List V} {kvs kvt : List (Key × V)} {as bs : List Addr}
theorem oH.er2 (a : oH e H H2) : az (er3 H e) (er3 H2 e) := yE a.er xU xu wI
theorem At3.putr (a : At3 H e xs kvs as) (ne : e.lr ≠ e.ld) : At3 (upd H e.lr (.lst ys)) e ys kvs as := ⟨ao, by rw [aA (aF a.k a.r Z6)]; exact a.k, by rw [aA ne.symm]; exact a.d⟩
theorem At3.putk (a : At3 H e xs kvs as) : At3 (upd H e.kd (.dK kvt)) e xs kvt as := ⟨by rw [aA (aF a.r a.k Z6)]; exact a.r, ao, by rw [aA (aF a.d a.k Z6)]; exact a.d⟩
theorem At3.putd (a : At3 H e xs kvs as) (ne : e.lr ≠ e.ld) : At3 (upd H e.ld (.lst (bs.map V.ref))) e xs kvs bs := ⟨by rw [aA ne]; exact a.r, by rw [aA (aF a.k a.d Z6)]; exact a.k, ao⟩
theorem yp {B : Hp} {ad nm : Str} {bn : Bn} {as : List Addr} {t : Addr} {b : BV} {v : V} (h : lF B ad bn as) (ht : B t = some (.tup [.str nm, v])) (hv : lR B ad nm b v) : lF B ad (bn ++ [(nm, b)]) (as ++ [t]) := by
 refine ⟨by rw [length_append, length_append, h.1]; rfl, fun i n c hi => ?_⟩
 rcases dW hi with ⟨k, hi⟩ | ⟨rfl, e⟩
 ·obtain ⟨a, w, x, y⟩ := h.2 i n c hi
  exact ⟨a, w, by rw [getElem?_append_left (by rw [h.1]; exact k)]; exact x, y⟩
 ·cases e
  exact ⟨t, v, by rw [<- h.1, getElem?_append_right (le_refl _), sub_self]; rfl, ht, hv⟩
end
theorem Je {z : Str} (h : eZ z) : ¬ z = "" := fun e => by have := h.lo; rw [e] at this; exact absurd this Z0
def CQ (rs : List bF) (j : Nat) : Bool := match rs[j]? with
 | some r => decide (r.so = 5)
 | none => false
theorem Ty1.up {rs : List bF} {th : Thg} {i : Nat} : ∀ {j : Nat}, j <= rs.length -> i <= j -> Ty1 (bB (rs.take i)) th -> Ty1 (bB (rs.take j)) th
 | 0, _, h, t => by rw [Nat.le_zero.mp h] at t; exact t
 | j + 1, hj, h, t => by
  rcases lt_or_ge j i with k | k
  ·rw [show i = j + 1 by omega] at t; exact t
  ·rw [jz (getElem?_eq_getElem hj)]; exact (Ty1.up (Nat.le_of_succ_le hj) k t).step
def K8 (bn : Bn) : Prop := ∀ (i : Nat) nm b, bn[i]? = some (nm, b) -> bn.lookup nm = some b
theorem mR.nd {rs : List bF} (g : mR rs) : ∀ i, i <= rs.length -> K8 (bB (rs.take i))
 | 0, _ => fun j nm b h => by rw [List.take_zero] at h; cases h
 | i + 1, hi => by
  have er : rs[i]? = some rs[i] := getElem?_eq_getElem hi
  have ih := g.nd i (Nat.le_of_succ_le hi)
  rw [jz er]
  unfold bR
  by_cases e0 : rs[i].nm = ""
  ·rw [if_pos e0]; exact ih
  ·rw [if_neg e0]
   intro j nm b h
   rcases dW h with ⟨k, h⟩ | ⟨_, z⟩
   ·exact uN (ih j nm b h)
   ·cases z
    rw [rC (g.new er e0), if_pos rfl]
theorem Mf {K : Frag} {H : Hp} {ad nm : Str} {b : BV} {v w : V} (h : lR H ad nm b v) (k : lR H ad nm b w) : DEq K H 1 v w := by
 cases b with
 | num n =>
  obtain rfl : v = .int n := h
  obtain rfl : w = .int n := k
  exact .int n
 | deed ts =>
  obtain ⟨t, rfl, ht⟩ := h
  obtain ⟨u, rfl, hu⟩ := k
  refine .tup (SqT.of ht) (SqT.of hu) rfl fun i x y ex ey => ?_
  rw [ex] at ey
  cases ey
  have hm := mem_of_getElem? ex
  simp only [mem_cons, not_mem_nil, or_false] at hm
  rcases hm with rfl | rfl | rfl | rfl <;> exact .str _
def vy (C : Nat -> Addr) : Sp := fun vs H Q _ => ∃ (s h f dr : Addr) (d : FlD) (ad : Str) (bn : Bn) (ld : Addr) (as : List Addr), vs = [.ref s, .str ad, .ref ld] /\ oU C H s h f dr /\ FFu C H f d ad bn /\ H ld = some (.lst (as.map V.ref)) /\ lF H ad bn as /\ K8 bn /\ Pur (.bl true) H Q
theorem JP {K : Frag} {H : Hp} {ad : Str} {bn : Bn} {as bs : List Addr} {a b : Addr} (p : lF H ad bn as) (q : lF H ad bn bs) (ha : H a = some (.lst (as.map V.ref))) (hb : H b = some (.lst (bs.map V.ref))) : DSq K H a b := by
 refine ⟨2, _, _, Z0, by rw [length_map, length_map, p.1, q.1], .inr ⟨SqL.of ha, SqL.of hb⟩, fun i x y ex ey => ?_⟩
 have hi : i < bn.length := by
  have := (List.getElem?_eq_some_iff.mp ex).1
  rw [length_map, p.1] at this
  exact this
 obtain ⟨c, v, e1, t1, b1⟩ := p.2 i _ _ (getElem?_eq_getElem hi)
 obtain ⟨c', v', e2, t2, b2⟩ := q.2 i _ _ (getElem?_eq_getElem hi)
 rw [getElem?_map, e1] at ex
 rw [getElem?_map, e2] at ey
 cases ex
 cases ey
 refine .tup (SqT.of t1) (SqT.of t2) rfl fun j x y ex ey => ?_
 match j, ex, ey with
 | 0, ex, ey => cases ex; cases ey; exact .str _
 | 1, ex, ey => cases ex; cases ey; exact Mf b1 b2
 | j + 2, ex, ey => simp at ex
structure SD where
 s : Addr
 h : Addr
 f : Addr
 dr : Addr
 ld : Addr
 tp : Addr
 d : FlD
 ad : Str
 rs : List bF
 as : List Addr
 xs : List V
 full : Bool
structure Sh1 (C : Nat -> Addr) (B H : Hp) (a : SD) : Prop where
 bs : B a.s = none
 bd : B a.dr = none
 sh : oU C H a.s a.h a.f a.dr
 hd : H a.dr = some (.lst a.xs)
 eh : a.d.h = a.h
 ho : ∃ l, cQ C B a.h l [⟨[a.ad], a.rs⟩]
 hok : fH [⟨[a.ad], a.rs⟩]
 ok : mR a.rs
 na : eZ a.ad
 fe : a.full = false -> FEm C B a.f a.d
 ff : a.full = true -> FFu C B a.f a.d a.ad (bB a.rs)
 hl : B a.ld = some (.lst (a.as.map V.ref))
 pr : lF B a.ad (bB a.rs) a.as
 tp : B a.tp = some (.tup [.ref a.s, .str a.ad, .ref a.ld])
structure LS (C : Nat -> Addr) (B H : Hp) (L : List SD) : Prop where
 s : az B H
 at1 : ∀ (i : Nat) a, L[i]? = some a -> Sh1 C B H a
 ne : ∀ (i j : Nat) a b, i ≠ j -> L[i]? = some a -> L[j]? = some b -> a.s ≠ b.s /\ a.dr ≠ b.dr
theorem cQ.go {C : Nat -> Addr} {H H' : Hp} {h : Addr} {ps : List gh} (x : ∃ l, cQ C H h l ps) (s : az H H') : ∃ l, cQ C H' h l ps := by
 obtain ⟨l, x⟩ := x
 exact ⟨l, x.same s⟩
section
variable {C : Nat -> Addr} {B B' H H' : Hp} {L : List SD}
theorem Sh1.go {a : SD} (x : Sh1 C B H a) (s : az H H') : Sh1 C B H' a := ⟨x.bs, x.bd, x.sh.same s, s _ _ x.hd, x.eh, x.ho, x.hok, x.ok, x.na, x.fe, x.ff, x.hl, x.pr, x.tp⟩
theorem LS.go (x : LS C B H L) (s : az H H') : LS C B H' L := ⟨x.s.trans s, fun i a h => (x.at1 i a h).go s, x.ne⟩
theorem Sh1.up {a : SD} (x : Sh1 C B H a) (s : az B B') (h1 : B' a.s = none) (h2 : B' a.dr = none) : Sh1 C B' H a := ⟨h1, h2, x.sh, x.hd, x.eh, cQ.go x.ho s, x.hok, x.ok, x.na, fun e => (x.fe e).same s, fun e => (x.ff e).same s, s _ _ x.hl, x.pr.same s, s _ _ x.tp⟩
def erL (H : Hp) (L : List SD) : Hp := fun b => if (L.any fun a => decide (b = a.s) || decide (b = a.dr)) = true then none else H b
theorem uh {b : Addr} {a : SD} (h : a ∈ L) (e : b = a.s \/ b = a.dr) : erL H L b = none := if_pos (by
 rw [any_eq_true]
 refine ⟨a, h, ?_⟩
 rcases e with e | e
 ·rw [decide_eq_true e]; rfl
 ·rw [decide_eq_true e, Bool.or_true])
theorem wL {b : Addr} {o : HO} (h : H b = some o) (n : ∀ a ∈ L, b ≠ a.s /\ b ≠ a.dr) : erL H L b = some o := (if_neg (by
 rw [any_eq_true]
 rintro ⟨a, ha, e⟩
 obtain ⟨n1, n2⟩ := n a ha
 rw [decide_eq_false n1, decide_eq_false n2] at e
 cases e)).trans h
theorem yG : az (erL H L) H := fun b o h => by
 unfold erL at h
 by_cases k : (L.any fun a => decide (b = a.s) || decide (b = a.dr)) = true
 ·rw [if_pos k] at h; cases h
 ·rw [if_neg k] at h; exact h
theorem LS.draw {i : Nat} {a : SD} {f2 : Addr} {d2 : FlD} (ls : LS C B H L) (hi : L[i]? = some a) (dn : Drn C H H' a.s a.h a.dr a.xs f2 d2) (fu : FFu C H' f2 d2 a.ad (bB a.rs)) :
  ∃ B' v, az B B' /\ LS C B' H' (L.set i { a with f := f2, d := d2, xs := a.xs ++ [v], full := true }) := by
 have hs : ∀ c ∈ L, (∃ dx fs, H c.s = some (.ins (C 10) dx fs)) /\ (∃ xs, H c.dr = some (.lst xs)) /\ B c.s = none /\ B c.dr = none := fun c hc => by
  obtain ⟨j, hj, e⟩ := getElem_of_mem hc
  have x := ls.at1 j c (by rw [getElem?_eq_getElem hj, e])
  obtain ⟨dx, fs, k, _⟩ := x.sh
  exact ⟨⟨dx, fs, k⟩, ⟨_, x.hd⟩, x.bs, x.bd⟩
 have ha := ls.at1 i a hi
 have sBH : az B H' := fun b o e => dn.sb b o (ls.s b o e) (ak e ha.bs) (ak e ha.bd)
 have sb : az B (erL H' L) := fun b o e => wL (sBH b o e) fun c hc => ⟨ak e (hs c hc).2.2.1, ak e (hs c hc).2.2.2⟩
 have hs' : ∀ (j : Nat) c, L[j]? = some c -> (∃ dx fs, H' c.s = some (.ins (C 10) dx fs)) /\ (∃ xs, H' c.dr = some (.lst xs)) := fun j c hj => by
  by_cases e : i = j
  ·subst e
   rw [hi] at hj
   cases hj
   obtain ⟨dx, fs, k, _⟩ := dn.sh
   obtain ⟨v, k2⟩ := dn.xv
   exact ⟨⟨dx, fs, k⟩, _, k2⟩
  ·obtain ⟨⟨dx, fs, k1⟩, ⟨ys, k2⟩, _, _⟩ := hs c (mem_of_getElem? hj)
   obtain ⟨n1, n2⟩ := ls.ne i j a c e hi hj
   obtain ⟨⟨dx', fs', m1⟩, ⟨ys', m2⟩, _, _⟩ := hs a (mem_of_getElem? hi)
   exact ⟨⟨dx, fs, dn.sb _ _ k1 n1.symm (aF k1 m2 Z6)⟩, ys, dn.sb _ _ k2 (aF k2 m1 Z6) n2.symm⟩
 have td : ∀ {b : Addr} {o : HO}, H' b = some o -> (∀ c dx fs, o ≠ .ins c dx fs) -> (∀ xs, o ≠ .lst xs) -> erL H' L b = some o := fun h q1 q2 => wL h fun c hc => by
  obtain ⟨j, hj, e⟩ := getElem_of_mem hc
  obtain ⟨⟨dx, fs, k1⟩, ys, k2⟩ := hs' j c (by rw [getElem?_eq_getElem hj, e])
  exact ⟨aF h k1 (q1 _ _ _), aF h k2 (q2 _)⟩
 have nn : ∀ {b : Addr} {o : HO}, H' b = some o -> H b = none -> erL H' L b = some o := fun h h0 => wL h fun c hc => by
  obtain ⟨⟨dx, fs, k1⟩, ⟨ys, k2⟩, _, _⟩ := hs c hc
  exact ⟨(ak k1 h0).symm, (ak k2 h0).symm⟩
 have fu' : FFu C (erL H' L) f2 d2 a.ad (bB a.rs) := by
  obtain ⟨e, kvs, p, q, c⟩ := fu.hl
  obtain ⟨e', p', q'⟩ := fu.re
  obtain ⟨dx, fs, hf, ff⟩ := fu.fl
  refine ⟨⟨dx, fs, nn hf dn.f0, ff⟩, nn fu.en dn.f1, ⟨e, kvs, td p (by intro _ _ _ z; cases z) (by intro _ z; cases z), td q (by intro _ _ _ z; cases z) (by intro _ z; cases z), c.same fun b xs h => td h (by intro _ _ _ z; cases z) (by intro _ z; cases z)⟩, e', td p' (by intro _ _ _ z; cases z) (by intro _ z; cases z), td q' (by intro _ _ _ z; cases z) (by intro _ z; cases z)⟩
 obtain ⟨v, hv⟩ := dn.xv
 have am := mem_of_getElem? hi
 have il := (List.getElem?_eq_some_iff.mp hi).1
 have get : ∀ {a' : SD} {j : Nat} {c : SD}, (L.set i a')[j]? = some c -> (j = i /\ c = a') \/ (i ≠ j /\ L[j]? = some c) := fun {a' j c} h => by
  by_cases e : i = j
  ·subst e
   rw [getElem?_set_self il] at h
   exact .inl ⟨rfl, (Option.some.inj h).symm⟩
  ·rw [getElem?_set_ne e] at h
   exact .inr ⟨e, h⟩
 refine ⟨erL H' L, v, sb, yG, fun j c hj => ?_, fun j k b c hjk hb hc => ?_⟩
 ·rcases get hj with ⟨rfl, rfl⟩ | ⟨e, hj⟩
  ·exact ⟨uh am (.inl rfl), uh am (.inr rfl), dn.sh, hv, dn.eh, cQ.go ha.ho sb, ha.hok, ha.ok, ha.na, (fun z => by cases z), fun _ => fu', sb _ _ ha.hl, ha.pr.same sb, sb _ _ ha.tp⟩
  ·have hc := ls.at1 j c hj
   have cm := mem_of_getElem? hj
   obtain ⟨n1, n2⟩ := ls.ne i j a c e hi hj
   obtain ⟨⟨dx', fs', m1⟩, ⟨ys', m2⟩, _, _⟩ := hs a am
   obtain ⟨dx, fs, k1, kf⟩ := hc.sh
   have c2 : Sh1 C B H' c := ⟨hc.bs, hc.bd, ⟨dx, fs, dn.sb _ _ k1 n1.symm (aF k1 m2 Z6), kf⟩, dn.sb _ _ hc.hd (aF hc.hd m1 Z6) n2.symm, hc.eh, hc.ho, hc.hok, hc.ok, hc.na, hc.fe, hc.ff, hc.hl, hc.pr, hc.tp⟩
   exact c2.up sb (uh cm (.inl rfl)) (uh cm (.inr rfl))
 ·rcases get hb with ⟨rfl, rfl⟩ | ⟨e, hb2⟩
  ·rcases get hc with ⟨rfl, rfl⟩ | ⟨e2, hc2⟩
   ·exact absurd rfl hjk
   ·exact ls.ne _ k a c e2 hi hc2
  ·rcases get hc with ⟨rfl, rfl⟩ | ⟨e2, hc2⟩
   ·exact ls.ne j _ b a hjk hb2 hi
   ·exact ls.ne j k b c hjk hb2 hc2
end
structure L1 (C : Nat -> Addr) (H1 G : Hp) (sl : Addr) (L : List SD) (tps : List V) (B : Hp) : Prop where
 hb : az H1 B
 bsl : B sl = none
 ls : LS C B G L
 gsl : G sl = some (.lst tps)
 tl : tps.length = L.length
 ta : ∀ (i : Nat) a, L[i]? = some a -> tps[i]? = some (.ref a.tp)
 nd : ∀ c ∈ L, c.dr ≠ sl
 em : ∀ c ∈ L, c.full = false /\ c.xs = []
theorem L1.go {C : Nat -> Addr} {H1 G G' : Hp} {sl : Addr} {L : List SD} {tps : List V} {B : Hp} (x : L1 C H1 G sl L tps B) (s : az G G') : L1 C H1 G' sl L tps B := ⟨x.hb, x.bsl, x.ls.go s, s _ _ x.gsl, x.tl, x.ta, x.nd, x.em⟩
theorem L1.add {C : Nat -> Addr} {H1 G H3 Hm : Hp} {sl lp lt p lr : Addr} {L : List SD} {tps ys : List V} {B : Hp} {a : SD} (x : L1 C H1 G sl L tps B) (s3 : az G H3) (sm : az H3 Hm) (lp0 : H3 lp = none) (lpm : Hm lp = some (.lst ys))
  (s0 : H3 a.s = none) (d0 : H3 a.dr = none) (sh : oU C Hm a.s a.h a.f a.dr) (hd : Hm a.dr = some (.lst [])) (ex : a.xs = []) (ef : a.full = false) (eh : a.d.h = a.h) (dlp : a.dr ≠ lp)
  (hh : oE C Hm a.h lt) (h0 : H3 a.h = none) (hlt : Hm lt = some (.lst [.ref p])) (lt0 : H3 lt = none) (ltlp : lt ≠ lp) (ltdr : lt ≠ a.dr) (hs : a.h ≠ a.s)
  (pa : gO C (nw G H3) p a.ad lr a.rs) (hok : fH [⟨[a.ad], a.rs⟩]) (ok : mR a.rs) (na : eZ a.ad)
  (fe : FEm C Hm a.f a.d) (f0 : H3 a.f = none) (en0 : H3 a.d.en = none) (enlp : a.d.en ≠ lp) (endr : a.d.en ≠ a.dr)
  (hl : nw G H3 a.ld = some (.lst (a.as.map V.ref))) (pr : lF (nw G H3) a.ad (bB a.rs) a.as) (tp : Hm a.tp = some (.tup [.ref a.s, .str a.ad, .ref a.ld])) :
  ∃ B', L1 C H1 (upd (upd Hm sl (.lst (tps ++ [.ref a.tp]))) lp (.lst [])) sl (L ++ [a]) (tps ++ [.ref a.tp]) B' := by
 obtain ⟨sdx, sfs, hsm, sff⟩ := id sh
 have gm := s3.trans sm
 have slm := gm _ _ x.gsl
 have old : ∀ c ∈ L, (∃ dx fs, G c.s = some (.ins (C 10) dx fs)) /\ (∃ zs, G c.dr = some (.lst zs)) /\ B c.s = none /\ B c.dr = none := fun c hc => by
  obtain ⟨j, hj, e⟩ := getElem_of_mem hc
  have y := x.ls.at1 j c (by rw [getElem?_eq_getElem hj, e])
  obtain ⟨dx, fs, k, _⟩ := y.sh
  exact ⟨⟨dx, fs, k⟩, ⟨_, y.hd⟩, y.bs, y.bd⟩
 have big : ∀ {b o}, Hm b = some o -> b ≠ sl -> b ≠ lp -> (∀ c ∈ L, b ≠ c.s /\ b ≠ c.dr) -> b ≠ a.s -> b ≠ a.dr -> ers (ers (erL Hm (L ++ [a])) sl) lp b = some o := fun h n1 n2 n3 n4 n5 => nA (nA (wL h fun c hc => by
  rcases mem_append.mp hc with k | k
  ·exact n3 c k
  ·rw [mem_singleton.mp k]; exact ⟨n4, n5⟩) n1) n2
 have new3 : ∀ {b o}, Hm b = some o -> H3 b = none -> b ≠ lp -> b ≠ a.s -> b ≠ a.dr -> ers (ers (erL Hm (L ++ [a])) sl) lp b = some o := fun h k n2 n4 n5 => big h (ak (s3 _ _ x.gsl) k).symm n2 (fun c hc => by
  obtain ⟨⟨_, _, k1⟩, ⟨_, k2⟩, _, _⟩ := old c hc
  exact ⟨(ak (s3 _ _ k1) k).symm, (ak (s3 _ _ k2) k).symm⟩) n4 n5
 have oth : ∀ {b o}, Hm b = some o -> (∀ c dx fs, o ≠ .ins c dx fs) -> (∀ xs, o ≠ .lst xs) -> ers (ers (erL Hm (L ++ [a])) sl) lp b = some o := fun h q1 q2 => big h (aF h slm (q2 _)) (aF h lpm (q2 _)) (fun c hc => by
  obtain ⟨⟨_, _, k1⟩, ⟨_, k2⟩, _, _⟩ := old c hc
  exact ⟨aF h (gm _ _ k1) (q1 _ _ _), aF h (gm _ _ k2) (q2 _)⟩) (aF h hsm (q1 _ _ _)) (aF h hd (q2 _))
 have sB : az B (ers (ers (erL Hm (L ++ [a])) sl) lp) := fun b o e => by
  have e3 := s3 _ _ (x.ls.s _ _ e)
  exact big (sm _ _ e3) (ak e x.bsl) (ak e3 lp0) (fun c hc => ⟨ak e (old c hc).2.2.1, ak e (old c hc).2.2.2⟩) (ak e3 s0) (ak e3 d0)
 have sN : az (nw G H3) (ers (ers (erL Hm (L ++ [a])) sl) lp) := fun b o e => by
  have e3 := qy _ _ e
  unfold nw at e
  split at e
  ·rename_i hg
   exact big (sm _ _ e3) (ak x.gsl hg).symm (ak e3 lp0) (fun c hc => by
    obtain ⟨⟨_, _, k1⟩, ⟨_, k2⟩, _, _⟩ := old c hc
    exact ⟨(ak k1 hg).symm, (ak k2 hg).symm⟩) (ak e3 s0) (ak e3 d0)
  ·rename_i ys hg
   have : o = .tup ys := by rw [s3 _ _ hg] at e3; cases e3; rfl
   subst this
   exact oth (sm _ _ e3) (by intro _ _ _ z; cases z) (by intro _ z; cases z)
  ·cases e
 have nslp : sl ≠ lp := ak (s3 _ _ x.gsl) lp0
 have bl : ers (ers (erL Hm (L ++ [a])) sl) lp lp = none := ul
 have bs : ers (ers (erL Hm (L ++ [a])) sl) lp sl = none := by
  cases e : ers (ers (erL Hm (L ++ [a])) sl) lp sl with
  | none => rfl
  | some o => have := lZ _ _ e; rw [ul] at this; cases this
 have bc : ∀ c ∈ L ++ [a], ∀ b, b = c.s \/ b = c.dr -> ers (ers (erL Hm (L ++ [a])) sl) lp b = none := fun c hc b hb => by
  cases e : ers (ers (erL Hm (L ++ [a])) sl) lp b with
  | none => rfl
  | some o => have := lZ _ _ (lZ _ _ e); rw [uh hc hb] at this; cases this
 have sH : az (ers (ers (erL Hm (L ++ [a])) sl) lp) (upd (upd Hm sl (.lst (tps ++ [.ref a.tp]))) lp (.lst [])) := fun b o e => by
  rw [aA (ak e bl), aA (ak e bs)]
  exact yG _ _ (lZ _ _ (lZ _ _ e))
 have keep : ∀ {b o}, Hm b = some o -> b ≠ sl -> b ≠ lp -> upd (upd Hm sl (.lst (tps ++ [.ref a.tp]))) lp (.lst []) b = some o := fun h n1 n2 => by rw [aA n2, aA n1]; exact h
 have dsl : a.dr ≠ sl := (ak (s3 _ _ x.gsl) d0).symm
 refine ⟨_, x.hb.trans sB, bs, ⟨sH, fun j c hj => ?_, fun i j c c' hij hc hc' => ?_⟩, by rw [aA nslp]; exact ao, by rw [length_append, length_append, x.tl]; rfl, fun i c hc => ?_, fun c hc => ?_, fun c hc => ?_⟩
 ·rcases dW hj with ⟨k, hj⟩ | ⟨rfl, rfl⟩
  ·have y := x.ls.at1 j c hj
   have cm := mem_of_getElem? hj
   obtain ⟨dx, fs, k1, kf⟩ := y.sh
   have y2 : Sh1 C B (upd (upd Hm sl (.lst (tps ++ [.ref a.tp]))) lp (.lst [])) c := ⟨y.bs, y.bd, ⟨dx, fs, keep (gm _ _ k1) (aF k1 x.gsl Z6) (ak (s3 _ _ k1) lp0), kf⟩, keep (gm _ _ y.hd) (x.nd c cm) (ak (s3 _ _ y.hd) lp0), y.eh, y.ho, y.hok, y.ok, y.na, y.fe, y.ff, y.hl, y.pr, y.tp⟩
   exact y2.up sB (bc c (mem_append_left _ cm) _ (.inl rfl)) (bc c (mem_append_left _ cm) _ (.inr rfl))
  ·have am : c ∈ L ++ [c] := mem_append_right _ Z2
   obtain ⟨hdx, hfs, hhe, hhr⟩ := hh
   obtain ⟨fdx, ffs, ffe, fff⟩ := fe.fl
   refine ⟨bc c am _ (.inl rfl), bc c am _ (.inr rfl), ⟨sdx, sfs, keep hsm (aF hsm slm Z6) (aF hsm lpm Z6), sff⟩, by rw [ex]; exact keep hd dsl dlp, eh, ⟨lt, ?_⟩, hok, ok, na, fun _ => ⟨⟨fdx, ffs, new3 ffe f0 (aF ffe lpm Z6) (Mq sh fe.fl) (aF ffe hd Z6), fff⟩, oth fe.hl (by intro _ _ _ z; cases z) (by intro _ z; cases z), oth fe.re (by intro _ _ _ z; cases z) (by intro _ z; cases z), new3 fe.en en0 enlp (aF fe.en hsm Z6) endr⟩, (fun z => by rw [ef] at z; cases z), sN _ _ hl, pr.same sN, oth tp (by intro _ _ _ z; cases z) (by intro _ z; cases z)⟩
   refine Ac ⟨hdx, hfs, new3 hhe h0 (aF hhe lpm Z6) hs (aF hhe hd Z6), hhr⟩ (new3 hlt lt0 ltlp (aF hlt hsm Z6) ltdr) ⟨rfl, fun i q hq => ?_⟩
   cases i with
   | zero =>
    cases hq
    exact ⟨p, lr, rfl, by show gO C _ p (dotted [c.ad]) lr c.rs; rw [dF]; exact pa.same sN⟩
   | succ i => cases hq
 ·have na' : ∀ (i : Nat) c, L[i]? = some c -> c.s ≠ a.s /\ c.dr ≠ a.dr := fun i c hc => by
   obtain ⟨⟨_, _, k1⟩, ⟨_, k2⟩, _, _⟩ := old c (mem_of_getElem? hc)
   exact ⟨ak (s3 _ _ k1) s0, ak (s3 _ _ k2) d0⟩
  rcases dW hc with ⟨k, hc⟩ | ⟨e1, e2⟩
  ·rcases dW hc' with ⟨k', hc'⟩ | ⟨e3, e4⟩
   ·exact x.ls.ne i j c c' hij hc hc'
   ·rw [e4]; exact na' i c hc
  ·rcases dW hc' with ⟨k', hc'⟩ | ⟨e3, e4⟩
   ·rw [e2]; exact ⟨(na' j c' hc').1.symm, (na' j c' hc').2.symm⟩
   ·exact absurd (e1.trans e3.symm) hij
 ·rcases dW hc with ⟨k, hc⟩ | ⟨rfl, rfl⟩
  ·rw [getElem?_append_left (by rw [x.tl]; exact k)]; exact x.ta i c hc
  ·rw [<- x.tl, getElem?_append_right (le_refl _), sub_self]; rfl
 ·rcases mem_append.mp hc with k | k
  ·exact x.nd c k
  ·rw [mem_singleton.mp k]; exact dsl
 ·rcases mem_append.mp hc with k | k
  ·exact x.em c k
  ·rw [mem_singleton.mp k]; exact ⟨ef, ex⟩
theorem clamp (x : Int) : ∃ n, (if (if x < 12 then x else 12) > 1 then (if x < 12 then x else 12) else 1) = n /\ 1 <= n /\ n <= 12 := ⟨_, rfl, by split <;> split <;> omega, by split <;> split <;> omega⟩
theorem Gi : ∀ {xs : List V}, (∀ (i : Nat) v, xs[i]? = some v -> ∃ c : Int, v = .int c) -> ∃ cs : List Int, xs = cs.map V.int
 | [], _ => ⟨[], rfl⟩
 | x :: xs, h => by
  obtain ⟨c, rfl⟩ := h 0 x rfl
  obtain ⟨cs, rfl⟩ := Gi (xs := xs) fun i v e => h (i + 1) v e
  exact ⟨c :: cs, rfl⟩
theorem G8 {ad : Str} {rs : List bF} (na : eZ ad) (g : je rs) : fH [⟨[ad], rs⟩] := by
 have ea : adS [⟨[ad], rs⟩] = [ad] := by show [dotted [ad]] = [ad]; rw [dF]
 refine ⟨by show 1 <= 12; decide, fun p hp => by rw [mem_singleton.mp hp]; exact ⟨qT na, g⟩, by rw [ea]; simp, fun p hp => by rw [mem_singleton.mp hp]; exact .inl rfl, fun p hp r hr hn => ?_⟩
 rw [mem_singleton.mp hp, ea]
 show dotted [ad] ++ "." ++ r.nm ∉ [ad]
 rw [dF]
 intro k
 have := congrArg Str.length (mem_singleton.mp k)
 rw [wD, wD, show (("." : Str)).length = 1 from by decide +kernel] at this
 omega
theorem zY {K : Frag} {a : Addr} {xs : List V} {tf : TT} {te : TE} {τ0 : L2.St} {H : Hp} {Fin : List V -> Hp -> Prop} (Iv : Nat -> List V -> Hp -> Prop) (hn : xs.length <= sizeLine) (hl : SqL K H a xs) (h0 : Iv 0 [] H) (hk : ∀ i ys H', Iv i ys H' -> ys.length <= i)
  (hs : ∀ (i : Nat) x ys H' (Q : Bool -> Hp -> Prop), xs[i]? = some x -> az H H' -> Iv i ys H' -> (∀ H1, az H H1 -> Iv (i + 1) ys H1 -> Q false H1) -> (∀ H1, (∀ Q2 : VK, (∀ y H2, az H H2 -> Iv (i + 1) (ys ++ [y]) H2 -> Q2 y H2) -> te (τ0.set 0 (some x)) H1 Q2) -> Q true H1) -> tf (τ0.set 0 (some x)) H' Q)
  (hfin : ∀ ys H', az H H' -> Iv xs.length ys H' -> Fin ys H') : ph (iT 0) tf te (Itl K a) τ0 H Fin := by
 refine ⟨fun i m τ ys H' => m = xs.length - i /\ i <= xs.length /\ Iv i ys H' /\ az H H' /\ ∃ v, τ = τ0.set 0 v \/ τ = τ0, ⟨xs.length, rfl, zero_le _, h0, az.refl _, none, .inr rfl⟩, ?_⟩
 rintro i m τ ys H' ⟨rfl, hi, iv, sm, v, hτ⟩
 by_cases hlt : i < xs.length
 ·have hx : xs[i]? = some xs[i] := by simp [hlt]
  refine .inr ⟨⟨xs, xs[i], sm.seq hl, hx⟩, fun x H'' y => ?_⟩
  obtain ⟨rfl, y⟩ := y
  have ex : x = xs[i] := by have := y xs (sm.seq hl); rw [hx] at this; exact (Option.some.inj this).symm
  subst ex
  have e5 : τ.set 0 (some xs[i]) = τ0.set 0 (some xs[i]) := by
   rcases hτ with rfl | rfl
   ·rw [set_set]
   ·rfl
  show tf (τ.set 0 (some xs[i])) _ _
  rw [e5]
  refine hs i _ ys _ _ hx sm iv (fun H1 s1 k => ?_) (fun H1 k => ?_)
  ·dsimp only
   exact ⟨xs.length - (i + 1), Z1, rfl, hlt, k, s1, _, .inl rfl⟩
  ·dsimp only
   rw [if_pos rfl]
   exact k _ fun y H2 s2 k2 => ⟨by have := hk i ys _ iv; omega, xs.length - (i + 1), Z1, rfl, hlt, k2, s2, _, .inl rfl⟩
 ·have e : i = xs.length := by omega
  subst e
  exact .inl ⟨⟨xs, sm.seq hl, le_refl _⟩, hfin ys H' sm iv⟩
theorem Eu (xs : List V) (y : V) : gU (xs ++ [y]) (some (-1)) none = [y] := by
 unfold gU
 have e : HT.sIx (xs ++ [y]).length 0 (some (-1)) = xs.length := by
  show (if (-1 : Int) < 0 then ((-1 : Int) + ((xs ++ [y]).length : Nat)).toNat else min (-1 : Int).toNat (xs ++ [y]).length) = xs.length
  rw [if_pos Z0, length_append, length_singleton]
  omega
 rw [e, List.drop_left, HT.sIx_none, length_append, length_singleton, Nat.add_sub_cancel_left]
 rfl
structure L2s (C : Nat -> Addr) (H : Hp) (sl : Addr) (L : List SD) (tps : List V) (B : Hp) : Prop where
 ls : LS C B H L
 sl : B sl = some (.lst tps)
 ll : L.length = 2
 tl : tps.length = 2
 ta : ∀ (i : Nat) a, L[i]? = some a -> tps[i]? = some (.ref a.tp)
theorem L2s.go {C : Nat -> Addr} {H H' : Hp} {sl : Addr} {L : List SD} {tps : List V} {B : Hp} (x : L2s C H sl L tps B) (s : az H H') : L2s C H' sl L tps B := ⟨x.ls.go s, x.sl, x.ll, x.tl, x.ta⟩
theorem L1.l2 {C : Nat -> Addr} {H1 G : Hp} {sl : Addr} {L : List SD} {tps : List V} {B : Hp} (x : L1 C H1 G sl L tps B) (h : L.length = 2) : L2s C G sl L tps (upd B sl (.lst tps)) := by
 have sB : az B (upd B sl (.lst tps)) := az.new x.bsl
 refine ⟨⟨fun b o e => ?_, fun i a hi => ?_, x.ls.ne⟩, ao, h, by rw [x.tl, h], x.ta⟩
 ·by_cases z : b = sl
  ·subst z; rw [ao] at e; cases e; exact x.gsl
  ·rw [aA z] at e; exact x.ls.s _ _ e
 ·have y := x.ls.at1 i a hi
  obtain ⟨dx, fs, k, _⟩ := y.sh
  exact y.up sB (by rw [aA (aF k x.gsl Z6)]; exact y.bs) (by rw [aA (x.nd a (mem_of_getElem? hi))]; exact y.bd)
theorem L2s.draw {C : Nat -> Addr} {H H' : Hp} {sl : Addr} {L : List SD} {tps : List V} {B : Hp} {i : Nat} {a : SD} {f2 : Addr} {d2 : FlD} (x : L2s C H sl L tps B) (hi : L[i]? = some a) (dn : Drn C H H' a.s a.h a.dr a.xs f2 d2) (fu : FFu C H' f2 d2 a.ad (bB a.rs)) :
  ∃ B' v, az B B' /\ L2s C H' sl (L.set i { a with f := f2, d := d2, xs := a.xs ++ [v], full := true }) tps B' := by
 obtain ⟨B', v, sB, ls⟩ := x.ls.draw hi dn fu
 refine ⟨B', v, sB, ls, sB _ _ x.sl, by rw [length_set]; exact x.ll, x.tl, fun j c hj => ?_⟩
 have il := (List.getElem?_eq_some_iff.mp hi).1
 by_cases e : i = j
 ·subst e
  rw [getElem?_set_self il] at hj
  cases hj
  exact x.ta i a hi
 ·rw [getElem?_set_ne e] at hj
  exact x.ta j c hj
theorem ym {K : Frag} {H : Hp} {n : Nat} {zs : List V} (hz : ∀ z ∈ zs, (∃ s, z = .str s) \/ ∃ k, z = .int k) : ∀ (i : Nat) x y, zs[i]? = some x -> zs[i]? = some y -> DEq K H n x y := fun i x y ex ey => by
 rw [ex] at ey
 cases ey
 rcases hz x (mem_of_getElem? ex) with ⟨s, rfl⟩ | ⟨k, rfl⟩
 ·exact .str s
 ·exact .int k
theorem zK {K : Frag} {H : Hp} {a b t u : Addr} {zs : List V} (h1 : H a = some (.lst [.ref t])) (h2 : H b = some (.lst [.ref u])) (h3 : H t = some (.tup zs)) (h4 : H u = some (.tup zs)) (hz : ∀ z ∈ zs, (∃ s, z = .str s) \/ ∃ k, z = .int k) : DSq K H a b := by
 refine ⟨1, [.ref t], [.ref u], Z0, rfl, .inr ⟨SqL.of h1, SqL.of h2⟩, fun i x y ex ey => ?_⟩
 cases i with
 | zero => cases ex; cases ey; exact .tup (SqT.of h3) (SqT.of h4) rfl (ym hz)
 | succ i => cases ex
theorem uo {a b : Str} : ∀ z ∈ [V.str a, V.str b], (∃ s, z = .str s) \/ ∃ k, z = .int k := fun z hz => by
 simp only [mem_cons, not_mem_nil, or_false] at hz
 rcases hz with rfl | rfl
 ·exact .inl ⟨_, rfl⟩
 ·exact .inl ⟨_, rfl⟩
def PlI (H : Hp) (ad : Str) (ks : List (Option Nat)) (i : Nat) (ys : List V) : Prop := ys.length = ((ks.take i).filterMap id).length /\ ∀ (m : Nat) v, ys[m]? = some v -> ∃ t k, v = .ref t /\ ((ks.take i).filterMap id)[m]? = some k /\ H t = some (.tup [.str ad, .int (k : Nat)])
theorem PlI.same {H H' : Hp} {ad : Str} {ks : List (Option Nat)} {i : Nat} {ys : List V} (h : PlI H ad ks i ys) (s : az H H') : PlI H' ad ks i ys := ⟨h.1, fun m v e => by
 obtain ⟨t, k, a, b, c⟩ := h.2 m v e
 exact ⟨t, k, a, b, s _ _ c⟩⟩
theorem PlI.le {H : Hp} {ad : Str} {ks : List (Option Nat)} {i : Nat} {ys : List V} (h : PlI H ad ks i ys) : ys.length <= i := by
 rw [h.1]
 exact le_trans (List.length_filterMap_le _ _) (List.length_take_le _ _)
theorem PlI.no {H : Hp} {ad : Str} {ks : List (Option Nat)} {i : Nat} {ys : List V} (h : PlI H ad ks i ys) (e : ks[i]? = some none) : PlI H ad ks (i + 1) ys := by
 have : (ks.take (i + 1)).filterMap id = (ks.take i).filterMap id := by rw [oh e, List.filterMap_append]; exact append_nil _
 unfold PlI
 rw [this]
 exact h
theorem PlI.yes {H : Hp} {ad : Str} {ks : List (Option Nat)} {i k : Nat} {ys : List V} {t : Addr} (h : PlI H ad ks i ys) (e : ks[i]? = some (some k)) (ht : H t = some (.tup [.str ad, .int (k : Nat)])) : PlI H ad ks (i + 1) (ys ++ [.ref t]) := by
 have ee : (ks.take (i + 1)).filterMap id = (ks.take i).filterMap id ++ [k] := by rw [oh e, List.filterMap_append]; rfl
 unfold PlI
 rw [ee]
 refine ⟨by rw [length_append, length_append, h.1]; rfl, fun m v hm => ?_⟩
 rcases dW hm with ⟨l, hm⟩ | ⟨e1, e2⟩
 ·obtain ⟨u, j, a, b, c⟩ := h.2 m v hm
  exact ⟨u, j, a, by rw [getElem?_append_left (by rw [<- h.1]; exact l)]; exact b, c⟩
 ·exact ⟨t, k, e2, by rw [e1, h.1, getElem?_append_right (le_refl _), sub_self]; rfl, ht⟩
theorem L2s.put {C : Nat -> Addr} {H : Hp} {sl l4 : Addr} {L : List SD} {tps : List V} {B : Hp} {o : HO} (x : L2s C H sl L tps B) (h0 : B l4 = none) (h : H l4 = some o) (ne : ∀ c ∈ L, c.s ≠ l4 /\ c.dr ≠ l4) : L2s C H sl L tps (upd B l4 o) := by
 have sB : az B (upd B l4 o) := az.new h0
 refine ⟨⟨fun b p e => ?_, fun i a hi => ?_, x.ls.ne⟩, sB _ _ x.sl, x.ll, x.tl, x.ta⟩
 ·by_cases z : b = l4
  ·subst z; rw [ao] at e; cases e; exact h
  ·rw [aA z] at e; exact x.ls.s _ _ e
 ·have y := x.ls.at1 i a hi
  obtain ⟨n1, n2⟩ := ne a (mem_of_getElem? hi)
  exact y.up sB (by rw [aA n1]; exact y.bs) (by rw [aA n2]; exact y.bd)
end
structure Tx (K : Frag) (mg : MG) (C : Nat -> Addr) : Prop where
 sorted : mg "sorted" = none
 t_dict : mg "dict" = none
 any : mg "any" = none
 enumerate : mg "enumerate" = none
 len : mg "len" = none
 range : mg "range" = none
 inst : mg "isinstance" = none
 t_str : mg "str" = none
 t_int : mg "int" = none
 t_bool : mg "bool" = none
 t_list : mg "list" = none
 t_tuple : mg "tuple" = none
 all : mg "all" = none
 max : mg "max" = none
 min : mg "min" = none
 zip : mg "zip" = none
 g_MOST_PARTS : ∃ t, mg "MOST_PARTS" = some (.int 12 t)
 aa8 : ∃ f fd, FnAt K mg "is_whole" mH m8 f fd
 aa3 : ∃ f fd, FnAt K mg "prefixes" mF kE f fd
 aag : ∃ f fd, FnAt K mg "parent_of" lE iZ f fd
 aay : ∃ f fd, FnAt K mg "show_term" kY jZ f fd
 aai : ∃ f fd, FnAt K mg "show_expr" jX iV f fd
 aaa : ∃ f fd, FnAt K mg "kind_of" ou eU f fd
 aa4 : ∃ f fd, FnAt K mg "looked_at" lA kO f fd
 aaj : ∃ f fd, FnAt K mg "path_end" mG jK f fd
 aaf : ∃ f fd, FnAt K mg "term_end" jN ik f fd
 aah : ∃ f fd, FnAt K mg "come_to" lY jA f fd
 aak : ∃ f fd, FnAt K mg "call_deed" jQ iU f fd
 abb : ∃ f fd, FnAt K mg "row_value" kh jW f fd
 aa6 : ∃ f fd, FnAt K mg "is_orphan" kj jV f fd
 aa0 : ∃ f fd, FnAt K mg "is_clash" mV mW f fd
 abc : ∃ f fd, FnAt K mg "check_parts" iJ iK f fd
 aav : ∃ f fd, FnAt K mg "_law_cell" mZ wy f fd
 aa1 : ∃ f fd, FnAt K mg "_law_sub" oG Cq f fd
 aaz : ∃ f fd, FnAt K mg "_law_number" jr qG f fd
 aab : ∃ f fd, FnAt K mg "_law_pick" mC pO f fd
 aa9 : ∃ f fd, FnAt K mg "_law_names" lB sX f fd
 aaw : ∃ f fd, FnAt K mg "_law_some" nu wQ f fd
 aa7 : ∃ f fd, FnAt K mg "_law_terms" jR tE f fd
 aad : ∃ f fd, FnAt K mg "_law_sum" my tH f fd
 aba : ∃ f fd, FnAt K mg "_law_part" ni xq f fd
 aa5 : ∃ f fd, FnAt K mg "_law_tells" jT tD f fd
 m_Row_binds : ∃ f fd, MAt K "binds" "Row.binds" iy mQ f fd /\ Meth K (C 5) "binds" f /\ Meth K (C 6) "binds" f
 i_Let : ∃ f fd, MAt K "__init__" "Let.__init__" fB lJ f fd /\ Mk K (C 0) f
 m_Let_binds : ∃ f fd, MAt K "binds" "Let.binds" iM mJ f fd /\ Meth K (C 0) "binds" f
 i_Deed : ∃ f fd, MAt K "__init__" "Deed.__init__" d8 jx f fd /\ Mk K (C 1) f
 m_Deed_binds : ∃ f fd, MAt K "binds" "Deed.binds" gC lO f fd /\ Meth K (C 1) "binds" f
 i_Draw : ∃ f fd, MAt K "__init__" "Draw.__init__" jU wC f fd /\ Mk K (C 2) f
 m_Draw_binds : ∃ f fd, MAt K "binds" "Draw.binds" gQ lM f fd /\ Meth K (C 2) "binds" f
 i_Late : ∃ f fd, MAt K "__init__" "Late.__init__" lC xF f fd /\ Mk K (C 3) f
 m_Late_binds : ∃ f fd, MAt K "binds" "Late.binds" gH lQ f fd /\ Meth K (C 3) "binds" f
 i_Take : ∃ f fd, MAt K "__init__" "Take.__init__" lG xn f fd /\ Mk K (C 4) f
 m_Take_binds : ∃ f fd, MAt K "binds" "Take.binds" gR lN f fd /\ Meth K (C 4) "binds" f
 i_Need : ∃ f fd, MAt K "__init__" "Need.__init__" dY jt f fd /\ Mk K (C 5) f
 i_Filling : ∃ f fd, MAt K "__init__" "Filling.__init__" cP dO f fd /\ Mk K (C 9) f
 m_Filling_copied : ∃ f fd, MAt K "copied" "Filling.copied" dC d9 f fd /\ Meth K (C 9) "copied" f
 m_Filling_log : ∃ f fd, MAt K "log" "Filling.log" fX gA f fd /\ Meth K (C 9) "log" f
 m_Filling_filled : ∃ f fd, MAt K "filled" "Filling.filled" dB cR f fd /\ Meth K (C 9) "filled" f
 m_Filling_names : ∃ f fd, MAt K "names" "Filling.names" eG fJ f fd /\ Meth K (C 9) "names" f
 m_Filling_touched : ∃ f fd, MAt K "touched" "Filling.touched" cW dI f fd /\ Meth K (C 9) "touched" f
 m_Filling_trail_now : ∃ f fd, MAt K "trail_now" "Filling.trail_now" gZ oM f fd /\ Meth K (C 9) "trail_now" f
 m_Filling_note : ∃ f fd, MAt K "note" "Filling.note" eV bK f fd /\ Meth K (C 9) "note" f
 m_Filling_touch : ∃ f fd, MAt K "touch" "Filling.touch" eE dm f fd /\ Meth K (C 9) "touch" f
 m_Filling_draw_step : ∃ f fd, MAt K "draw_step" "Filling.draw_step" cH cT f fd /\ Meth K (C 9) "draw_step" f
 m_Filling_fill_part : ∃ f fd, MAt K "fill_part" "Filling.fill_part" cG cV f fd /\ Meth K (C 9) "fill_part" f
 m_Filling_read_step : ∃ f fd, MAt K "read_step" "Filling.read_step" cF cX f fd /\ Meth K (C 9) "read_step" f
 m_Filling_bind : ∃ f fd, MAt K "bind" "Filling.bind" eX fU f fd /\ Meth K (C 9) "bind" f
 i_Shelf : ∃ f fd, MAt K "__init__" "Shelf.__init__" dG iH f fd /\ Mk K (C 10) f
 m_Shelf_draw : ∃ f fd, MAt K "draw" "Shelf.draw" gB iC f fd /\ Meth K (C 10) "draw" f
 m_Shelf_filled : ∃ f fd, MAt K "filled" "Shelf.filled" fG dJ f fd /\ Meth K (C 10) "filled" f
 m_Shelf_has_filled : ∃ f fd, MAt K "has_filled" "Shelf.has_filled" cO cC f fd /\ Meth K (C 10) "has_filled" f
 m_Shelf_check_filled : ∃ f fd, MAt K "check_filled" "Shelf.check_filled" bW bT f fd /\ Meth K (C 10) "check_filled" f
 m_Shelf_names : ∃ f fd, MAt K "names" "Shelf.names" fP eN f fd /\ Meth K (C 10) "names" f
 m_Shelf_means : ∃ f fd, MAt K "means" "Shelf.means" fV gF f fd /\ Meth K (C 10) "means" f
 m_Shelf_touched : ∃ f fd, MAt K "touched" "Shelf.touched" dU eY f fd /\ Meth K (C 10) "touched" f
 m_Shelf_copied : ∃ f fd, MAt K "copied" "Shelf.copied" mz rQ f fd /\ Meth K (C 10) "copied" f
 i_House : ∃ f fd, MAt K "__init__" "House.__init__" dq iD f fd /\ Mk K (C 8) f
 m_House_addresses : ∃ f fd, MAt K "addresses" "House.addresses" jl pI f fd /\ Meth K (C 8) "addresses" f
 m_House_has : ∃ f fd, MAt K "has" "House.has" iB jq f fd /\ Meth K (C 8) "has" f
 m_House_part : ∃ f fd, MAt K "part" "House.part" gJ dR f fd /\ Meth K (C 8) "part" f
 i_Part : ∃ f fd, MAt K "__init__" "Part.__init__" dZ jo f fd /\ Mk K (C 7) f
 m_Part_bound : ∃ f fd, MAt K "bound" "Part.bound" gM iz f fd /\ Meth K (C 7) "bound" f
 m_Part_place_of : ∃ f fd, MAt K "place_of" "Part.place_of" dX fW f fd /\ Meth K (C 7) "place_of" f
 c_Let : mg "Let" = some (.ref (C 0))
 c_Deed : mg "Deed" = some (.ref (C 1))
 c_Draw : mg "Draw" = some (.ref (C 2))
 c_Late : mg "Late" = some (.ref (C 3))
 c_Take : mg "Take" = some (.ref (C 4))
 c_Need : mg "Need" = some (.ref (C 5))
 c_Row : mg "Row" = some (.ref (C 6))
 c_Part : mg "Part" = some (.ref (C 7))
 c_House : mg "House" = some (.ref (C 8))
 c_Filling : mg "Filling" = some (.ref (C 9))
 c_Shelf : mg "Shelf" = some (.ref (C 10))
 cn : MkN K (C 6)
 fam : Mm K C
 pt : PP K (C 7)
 hs : Oh K (C 8)
 fl : Li K (C 9)
 sh : LQ K (C 10)
section
variable {P : Program} {w : World} {K : Frag} {mg : MG} {base : Heap}
theorem wg (T : Tx K mg C) (F : Fun K "show_term" "show_term" kY f fd) : aG P w K mg base CX0 1 f fd jZ wu := by
 refine F.oq rH fun _ _ _ _ H _ Q E hr h => ?_
 ·obtain ⟨x, th, rfl, hx, gth, q⟩ := h
  refine ⟨_, QSs.h (aq (bz (aK cN (pv 0) aL (aN _)) (aC (aM (cA xP Z3 T.t_str PyProof.Rows.boot_str (aj (pv 1) au)))) aU)
   (aq (aO (i := 2) rH.nd rfl (Or.inl rfl) (eQ plainAttrs_str slot_str_join type_str_join sY aL (aj (pv 1) au)))
   (aq (bz (aK cN (pv 0) aL (aN _)) (aC (aM (aP pM (pv 2) aL))) aU)
   (aC (aM (pv 2)))))), ?_⟩
  have q0 := q H (az.refl H)
  cases th with
  | num m =>
   cases hx
   exact ⟨_, rfl, rfl, _, rfl, dM (decide_eq_true (show V.str (kindOf (.num m)) = V.str "number" from rfl)) ⟨_, rfl, _, rfl, log2_small gth, q0⟩⟩
  | nms c ys =>
   have gn : vG ys := gth
   obtain ⟨r, rfl, hr'⟩ := hx
   have hs : (ys.map (·.length)).sum <= ys.length * 8 := tO fun y hy => (gn.nm y hy).hi
   have h4 := gn.hi
   have hdl := gn.len
   cases c with
   | true =>
    refine ⟨_, rfl, rfl, _, rfl, cj (decide_eq_false (show ¬ V.str "call" = V.str "number" by decide +kernel)) ?_⟩
    refine ⟨rfl, _, rfl, _, r, ys, rfl, rfl, .inr (SqT.of hr'), by rw [Eo]; omega, ?_⟩
    exact ⟨_, rfl, rfl, _, rfl, dM (decide_eq_true (show V.str "call" = V.str "call" from rfl)) ⟨_, rfl, _, _, rfl, rfl, le_trans (show (dotted ys).length + brk.length <= 1000 by rw [BK]; omega) sU, q0⟩⟩
   | false =>
    refine ⟨_, rfl, rfl, _, rfl, cj (decide_eq_false (show ¬ V.str "path" = V.str "number" by decide +kernel)) ?_⟩
    refine ⟨rfl, _, rfl, _, r, ys, rfl, rfl, .inr (SqT.of hr'), by rw [Eo]; omega, ?_⟩
    exact ⟨_, rfl, rfl, _, rfl, cj (decide_eq_false (show ¬ V.str "path" = V.str "call" by decide +kernel)) ⟨_, rfl, q0⟩⟩
theorem qF (T : Tx K mg C) (F : Fun K "show_expr" "show_expr" jX f fd) : aG P w K mg base CX0 2 f fd iV zP := by
 obtain ⟨fay, day, Aay⟩ := T.aay
 have Gay : aG P w K mg base CX0 1 fay day jZ wu := wg T Aay.F
 refine F.oq iQ fun _ _ _ _ H _ Q E hr h => ?_
 ·obtain ⟨l, ts, rfl, ⟨xs, hl, hxl, hx⟩, hg, q⟩ := h
  have hr1 : aR 1 _ := hr
  refine ⟨_, QSs.h (aq (aO (i := 1) iQ.nd rfl (Or.inl rfl) (b8 au))
   (aq (dj PassesOwn.never rfl (bO (pv 0)) (dH (K := K) (n := 3) rfl rfl (aV (aJ (i := 2) iQ.nd rfl (Or.inl rfl)) (aV (aJ (i := 3) iQ.nd rfl (Or.inl rfl)) (aV (aJ (i := 4) iQ.nd rfl (Or.inl rfl)) du))))
   (aq (bz (aK tX (bf bJ Z3 T.len boot_len (aj (pv 1) au)) aB (aN _)) (aC (bh (eQ plainAttrs_list PySem.F.slot_list_append PySem.F.type_list_append bH (pv 1) (aj (zg (aK cN (pv 2) aB (aN _)) aL aL) au)))) aU)
   (aC (bh (eQ plainAttrs_list PySem.F.slot_list_append PySem.F.type_list_append bH (pv 1) (aj (bj Aay Gay hr1 (aj (pv 3) (aj (pv 4) au))) au))))))
   (aC (aM (eQ plainAttrs_str slot_str_join type_str_join sY aL (aj (pv 1) au)))))), ?_⟩
  have h6 := hg.hi
  refine ⟨by show 0 <= sizeLine; decide, fun d hd => ?_⟩
  refine ⟨_, rfl, l, rfl, ⟨_, SqL.of ((az.new hd) _ _ hl)⟩, ?_⟩
  refine cY (xs := xs) (fun i σ H' => ∃ v2 v3 v4, σ = [some (.ref l), some (.ref d), v2, v3, v4] /\ az H H' /\ H' d = some (.lst ((wordsOf (ts.take i)).map V.str))) ⟨none, none, none, rfl, az.new hd, ao⟩ ?_ ?_ ?_
  ·rintro i σ H' _ ⟨v2, v3, v4, rfl, sm, _⟩
   exact SqL.of (sm _ _ hl)
  ·rintro i x σ H3 hxi ⟨v2, v3, v4, rfl, sm, h3d⟩
   obtain ⟨t, et, tm⟩ := hx i x hxi
   have gt : zm t := hg.ok t (mem_of_getElem? et)
   obtain ⟨p, y, rfl, hp, hy⟩ := tm.same sm
   have hi : i < ts.length := (List.getElem?_eq_some_iff.mp et).1
   have hne : d ≠ p := aF h3d hp Z6
   refine ⟨p, _, rfl, SqT.of hp, rfl, _, _, rfl, _, _, rfl, _, _, rfl, rfl, ?_⟩
   have e2 : ts.take (i + 1) = ts.take i ++ [t] := by rw [List.take_add_one, et]; rfl
   have wl : (wordsOf (ts.take i)).length <= 12 := by
    cases htk : ts.take i with
    | nil => simp [wordsOf]
    | cons u r =>
     rw [rG Z2, <- htk, length_take]
     omega
   have fin : ∀ (ws : List Str) (Hx : Hp), ws.length <= 13 -> az H Hx -> Hx d = some (.lst (ws.map V.str)) -> ws ++ [wordOf t.th] = wordsOf (ts.take (i + 1)) ->
     Fg (tBM K "list" BW (wU 1) (vB (Ez wu [] E0 (vB (wU 3) (vB (wU 4) Dg))) Dg))
      { nx := fun σ H' => ∃ v2 v3 v4, σ = [some (V.ref l), some (V.ref d), v2, v3, v4] /\ az H H' /\ H' d = some (.lst ((wordsOf (ts.take (i + 1))).map V.str)), rt := Q, bk := HD (tBM K "str" (rJoin K) (tC (.str " ")) (vB (wU 1) Dg)) { nx := fun _ H' => Q .non H', rt := Q }, ct := fun σ H' => ∃ v2 v3 v4, σ = [some (V.ref l), some (V.ref d), v2, v3, v4] /\ az H H' /\ H' d = some (.lst ((wordsOf (ts.take (i + 1))).map V.str)) }
      [some (V.ref l), some (V.ref d), some (V.int t.sg), some (V.str (kindOf t.th)), some y] Hx := by
    intro ws Hx hw sx hxd hws
    refine ⟨_, rfl, .inl ⟨rfl, _, SqL.of hxd⟩, _, rfl, _, rfl, y, t.th, rfl, (hx i _ hxi).elim fun t' ⟨et', tm'⟩ => ?_, gt.th, fun H4 s4 => ?_⟩
    ·rw [et] at et'; cases et'
     obtain ⟨p', y', e', hp', hy'⟩ := tm'.same sx
     cases e'
     obtain ⟨p0, y0, e0, hp0, hy0⟩ := tm
     cases e0
     have a1 := sm _ _ hp0
     rw [hp] at a1
     have a2 := sx _ _ hp0
     rw [hp'] at a2
     injection a1 with a1; injection a1 with a1
     injection a2 with a2; injection a2 with a2
     have ey : y = y0 := by injection a1 with _ a1; injection a1 with _ a1; injection a1
     subst ey
     exact hy0.same sx
    ·refine ⟨d, _, _, rfl, rfl, s4 _ _ hxd, lt_of_lt_of_le (show (ws.map V.str).length < 1000 by rw [length_map]; omega) sU, ?_⟩
     refine ⟨_, _, _, rfl, (sx.trans s4).over hd, ?_⟩
     rw [ao, <- hws, map_append]
     rfl
   refine ⟨_, rfl, d, _, rfl, .inl (SqL.of h3d), _, _, rfl, rfl, _, rfl, nG (fun h => ?_) (fun h => ?_)⟩
   ·rw [length_map] at h
    have hne2 : ts.take i ≠ [] := fun z => by rw [z] at h; simp [wordsOf] at h
    refine ⟨_, rfl, .inl ⟨rfl, _, SqL.of h3d⟩, _, rfl, rfl, _, rfl, PQ ?_⟩
    refine ⟨d, _, V.str (sgw t.sg), rfl, by rw [J4], h3d, lt_of_lt_of_le (show _ < 1000 by rw [length_map]; omega) sU, ?_⟩
    refine fin (wordsOf (ts.take i) ++ [sgw t.sg]) _ (by rw [length_append]; simp; omega) (sm.over hd) (by rw [ao, map_append]; rfl) ?_
    rw [e2, wA t hne2, append_assoc]
    rfl
   ·rw [length_map] at h
    have hne2 : ts.take i = [] := by
     cases htk : ts.take i with
     | nil => rfl
     | cons u r => rw [htk] at h; simp [wordsOf] at h
    refine fin (wordsOf (ts.take i)) H3 Z1 sm h3d ?_
    rw [e2, hne2]
    rfl
  ·rintro σ H3 ⟨v2, v3, v4, rfl, sm, h3d⟩
   rw [hxl, take_length] at h3d
   have wn := rG hg.lo
   have ws : ((wordsOf ts).map (·.length)).sum <= (wordsOf ts).length * 38 := tO fun y hy => by
    rcases yD hy with ⟨t, ht, rfl⟩ | ⟨t, ht, rfl⟩
    ·exact Ga (hg.ok t ht).th
    ·rw [Hz]; decide
   have q' := q H3 sm
   rw [<- CZ] at q'
   exact ⟨rfl, _, rfl, _, d, wordsOf ts, rfl, rfl, .inl (SqL.of h3d), by rw [Ei]; omega, q'⟩
theorem yj (T : Tx K mg C) (F : Fun K "is_whole" "is_whole" mH f fd) : aG P w K mg base CX0 1 f fd m8 vg := by
 refine F.oq zO fun _ _ _ _ H _ Q E hr h => ?_
 ·obtain ⟨v, k, rfl, hk, q⟩ := h
  refine ⟨_, QSs.h (aC (aM (Az (bf gb Z3 T.inst boot_isinstance (aj (pv 0) (aj (jY (v := .ty "int") Z3 T.t_int boot_int rfl) au))) (zW (Kl (bf gb Z3 T.inst boot_isinstance (aj (pv 0) (aj (jY (v := .ty "bool") Z3 T.t_bool boot_bool rfl) au)))))))), ?_⟩
  rcases hk with ⟨i, rfl, rfl⟩ | ⟨t, xs, rfl, ht, hn⟩
  ·exact ⟨_, rfl, _, _, _, _, rfl, .int _, lU, _, rfl, JW ⟨_, rfl, _, _, _, false, rfl, .int _, pY Z4 Z4 Z4, _, rfl, q H (az.refl H)⟩⟩
  ·rw [decide_eq_false hn] at q
   exact ⟨_, rfl, _, _, _, false, rfl, .tup ht, pY Z4 Z4 Z4, _, rfl, iR (q H (az.refl H))⟩
theorem yH (T : Tx K mg C) (F : Fun K "prefixes" "prefixes" mF f fd) : aG P w K mg base CX0 1 f fd kE vK := by
 refine F.oq rN fun _ _ _ _ H _ Q E hr h => ?_
 ·obtain ⟨z, rfl, nz, q⟩ := h
  refine ⟨_, QSs.h (aq (aO (i := 1) rN.nd rfl (Or.inr rfl) (eQ plainAttrs_str PySem.F.slot_str_split PySem.F.type_str_split Gd (pv 0) (aj aL au)))
   (aC (aM (kJ (N := ["many", "names"]) [none, some 1] rfl Z5 (Dc Z3 T.range (aj aB (aj (aP cI (bf bJ Z3 T.len boot_len (aj (pv 1) au)) aB) au))) (fun cl C fp s H => (aJ (i := 0) (by decide +kernel : (["many", "names"] : List Str).Nodup) rfl (Or.inl rfl))) (fun cl C fp s H => jL) (fun cl C fp s H => (Gk (K := K) rfl plainAttrs_str slot_str_join type_str_join (yX rfl) aL (aj (gP (yF (K := K) rfl) (pv 1) ju (jw (pv 0))) au))))))), ?_⟩
  have g := qT nz
  have q : ∀ p H', H p = none -> az H H' -> H' p = some (.lst ((Fq [z]).map V.str)) -> Q (.ref p) H' := by
   have e : Fq [z] = [z] := by show [dotted [z]] = [z]; rw [dF]
   rw [e]; exact q
  have h36 := g.len
  have h3 := g.hi
  generalize hy : [z] = ys at g h36 h3 q
  have ez : z = dotted ys := by rw [<- hy, dF]
  rw [ez]
  clear hy ez nz
  refine ⟨_, rfl, rfl, _, _, rfl, rfl, Z4, le_trans (show (dotted ys).length + 2 <= 1000 by omega) yK, fun p hp => ?_⟩
  rw [xM ys g.lo g.nm]
  refine ⟨_, rfl, p, _, rfl, .inl (SqL.of ao), _, _, rfl, rfl, _, _, rfl, ⟨Z0, Z0, Z1, by rw [length_map]; omega⟩, ?_⟩
  rw [length_map, show ((ys.length : Int) + 1 - 1).toNat = ys.length from by omega]
  refine Ab (fun i => V.str (dotted (ys.take (i + 1)))) (le_trans (show ys.length <= 3 by omega) Z0) (fun i H' Q' hi sm k' => ?_) (fun τ H Q Q' hh h => hh _ _ h) (fun H' sm p2 hp2 => ?_)
  ·refine ⟨rfl, rfl, _, rfl, _, rfl, _, rfl, p, _, rfl, SqL.of (sm _ _ ao), fun p3 hp3 => ?_⟩
   have e : (1 + (i : Int)) = ((i + 1 : Nat) : Int) := by omega
   have hs : ((ys.take (i + 1)).map (·.length)).sum <= (ys.take (i + 1)).length * 8 := tO fun y hy => (g.nm y (List.mem_of_mem_take hy)).hi
   have ht : (ys.take (i + 1)).length <= 3 := le_trans (List.length_take_le' _ _) h3
   refine ⟨_, p3, ys.take (i + 1), rfl, rfl, .inl (SqL.of ?_), ?_, k' _ (az.new hp3)⟩
   ·rw [ao, e, Fz _ Z1]; rfl
   ·rw [show (("." : Str)).length = 1 from by decide +kernel]; omega
  ·have h0 : H p2 = none := (az.new hp).free (sm.free hp2)
   refine q p2 _ h0 (((az.new hp).trans sm).put hp2) ?_
   rw [ao]
   unfold Fq
   rw [map_map]
   rfl
theorem qi (T : Tx K mg C) (F : Fun K "parent_of" "parent_of" lE f fd) : aG P w K mg base CX0 1 f fd iZ um := by
 refine F.oq zp fun _ _ _ _ H _ Q E hr h => ?_
 ·obtain ⟨ys, rfl, g, q⟩ := h
  refine ⟨_, QSs.h (aC (aM (bA c7 (eQ plainAttrs_str PySem.F.slot_str_rpartition PySem.F.type_str_rpartition Gn (pv 0) (aj aL au)) aB))), ?_⟩
  refine ⟨_, rfl, rfl, _, _, rfl, rfl, Z4, le_trans g.len Z0, fun p hp => ⟨p, _, _, _, rfl, rfl, SqT.of ao, aZ (j := 0) rfl, ?_⟩⟩
  rw [J6 g]
  exact q _ (az.new hp)
theorem iw (T : Tx K mg C) (F : Fun K "kind_of" "kind_of" ou f fd) : aG P w K mg base CX0 2 f fd eU jJ := by
 obtain ⟨fa8, da8, Aa8⟩ := T.aa8
 have Ga8 : aG P w K mg base CX0 1 fa8 da8 m8 vg := yj T Aa8.F
 refine F.oq Dv fun _ _ _ _ H _ Q E hr h => ?_
 ·obtain ⟨v, k, rfl, hk, q⟩ := h
  have hr1 : aR 1 _ := hr
  refine ⟨_, QSs.h (aq (bz (fY (bj Aa8 Ga8 hr1 (aj (pv 0) au))) (aC (aM aL)) aU)
   (aC (aM (bA c7 (pv 0) aB)))), ?_⟩
  refine ⟨_, rfl, v, k, rfl, hk, fun H1 s1 => ⟨_, rfl, ?_⟩⟩
  rcases hk with ⟨i, rfl, rfl⟩ | ⟨t, xs, rfl, ht, hn⟩
  ·exact dM (decide_eq_true rfl) (q H1 s1)
  ·refine cj (decide_eq_false hn) ?_
   exact ⟨_, rfl, t, _, _, _, rfl, rfl, SqT.of (s1 _ _ ht), aZ (j := 0) rfl, q H1 s1⟩
theorem xg (T : Tx K mg C) (F : Fun K "looked_at" "looked_at" lA f fd) : aG P w K mg base CX0 3 f fd kO xZ := by
 obtain ⟨faa, daa, Aaa⟩ := T.aaa
 have Gaa : aG P w K mg base CX0 2 faa daa eU jJ := iw T Aaa.F
 refine F.oq yR fun _ _ _ _ H _ Q E hr h => ?_
 ·obtain ⟨s, v, k, rfl, hk, hl, q⟩ := h
  have hr2 : aR 2 _ := hr
  refine ⟨_, QSs.h (aq (bz (aK km (bj Aaa Gaa hr2 (aj (pv 1) au)) aL (aN _)) (aC (aM (pv 1))) aU)
   bN), ?_⟩
  refine ⟨_, rfl, v, k, rfl, hk, fun H1 s1 => ⟨rfl, _, rfl, ?_⟩⟩
  exact dM (by rw [decide_eq_false fun z => hl (V.str.inj z)]; rfl) ⟨_, rfl, q H1 s1⟩
theorem uy (T : Tx K mg C) (F : Fun K "binds" "Row.binds" iy f fd) : aG P w K mg base CX0 1 f fd mQ Ek := by
 refine F.oq xW fun _ _ _ _ H _ Q E hr h => ?_
 ·obtain ⟨v, rfl, q⟩ := h
  exact ⟨_, QSs.h (aC (aM aL)), q H (az.refl H)⟩
theorem qw (T : Tx K mg C) (F : Fun K "__init__" "Let.__init__" fB f fd) : aG P w K mg base CX0 1 f fd lJ (wW C 0) := by
 refine F.oq zy fun _ _ _ _ H _ Q E hr h => ?_
 ·obtain ⟨x, dx, r, d, rfl, hso, hx, hts, h10, q⟩ := h
  refine ⟨_, QSs.h (aq (dD (pv 0) (pv 1))
   (aC (dD (pv 0) (cA cM Z3 T.t_list boot_list (aj (pv 2) au))))), ?_⟩
  obtain ⟨xs, hl, hxl, hxt⟩ := id hts
  have hdx : d ≠ x := aF hl hx Z6
  refine ⟨_, rfl, _, rfl, x, _, dx, _, rfl, hx, (T.fam.c 0 Z0).cl, T.fam.nn 0 Z0, lt_of_lt_of_le (zero_lt_one) Z0, _, rfl, d, _, rfl, .inl (SqL.of (by rw [aA hdx]; exact hl)), fun l hlf => ⟨_, rfl, x, _, dx, _, rfl, (by rw [aA (jb hlf).2.symm]; exact ao), (T.fam.c 0 Z0).cl, T.fam.nt 0 Z0, lt_of_lt_of_le (gq zero_lt_one) Z0, ?_⟩⟩
  obtain ⟨hl0, hlx⟩ := jb hlf
  refine q l _ hl0 (sb3 hl0) ⟨dx, _, by rw [hso]; exact ao, ?_⟩
  refine ⟨fun _ => (lkN Z4).trans lkP, fun _ => ⟨lkP, xs, by rw [aA hlx]; exact ao, hxl, fun j y e => ?_⟩, fun k => absurd k Z1, fun k => absurd k Z1, (lkN Z4).trans (lkN Z4), (lkN Z4).trans (lkN Z4), (lkN Z4).trans (lkN Z4)⟩
  obtain ⟨t, et, tm⟩ := hxt j y e
  exact ⟨t, et, tm.but hx (sb3 hl0)⟩
theorem tQ (T : Tx K mg C) (F : Fun K "binds" "Let.binds" iM f fd) : aG P w K mg base CX0 1 f fd mJ (spB C 0) := by
 refine F.oq wj fun _ _ _ _ H _ Q E hr h => ?_
 ·obtain ⟨a, l, r, rfl, hso, ra, q⟩ := h
  refine ⟨_, QSs.h (aC (aM (aW (pv 0) rfl))), ?_⟩
  obtain ⟨dx, fs, ha, hf⟩ := id ra
  rw [hso] at ha
  exact ⟨_, rfl, rdF ha (T.fam.c 0 Z0).cl (T.fam.nn 0 Z0) (hf.nm (by rw [hso]; decide)) (q H (az.refl H))⟩
theorem pR (T : Tx K mg C) (F : Fun K "__init__" "Deed.__init__" d8 f fd) : aG P w K mg base CX0 1 f fd jx (wW C 1) := by
 refine F.oq wG fun _ _ _ _ H _ Q E hr h => ?_
 ·obtain ⟨x, dx, r, d, rfl, hso, hx, hts, h10, q⟩ := h
  refine ⟨_, QSs.h (aq (dD (pv 0) (pv 1))
   (aC (dD (pv 0) (cA cM Z3 T.t_list boot_list (aj (pv 2) au))))), ?_⟩
  obtain ⟨xs, hl, hxl, hxt⟩ := id hts
  have hdx : d ≠ x := aF hl hx Z6
  refine ⟨_, rfl, _, rfl, x, _, dx, _, rfl, hx, (T.fam.c 1 Z0).cl, T.fam.nn 1 Z0, lt_of_lt_of_le (zero_lt_one) Z0, _, rfl, d, _, rfl, .inl (SqL.of (by rw [aA hdx]; exact hl)), fun l hlf => ⟨_, rfl, x, _, dx, _, rfl, (by rw [aA (jb hlf).2.symm]; exact ao), (T.fam.c 1 Z0).cl, T.fam.nt 1 Z0, lt_of_lt_of_le (gq zero_lt_one) Z0, ?_⟩⟩
  obtain ⟨hl0, hlx⟩ := jb hlf
  refine q l _ hl0 (sb3 hl0) ⟨dx, _, by rw [hso]; exact ao, ?_⟩
  refine ⟨fun _ => (lkN Z4).trans lkP, fun _ => ⟨lkP, xs, by rw [aA hlx]; exact ao, hxl, fun j y e => ?_⟩, fun k => absurd k Z1, fun k => absurd k Z1, (lkN Z4).trans (lkN Z4), (lkN Z4).trans (lkN Z4), (lkN Z4).trans (lkN Z4)⟩
  obtain ⟨t, et, tm⟩ := hxt j y e
  exact ⟨t, et, tm.but hx (sb3 hl0)⟩
theorem sS (T : Tx K mg C) (F : Fun K "binds" "Deed.binds" gC f fd) : aG P w K mg base CX0 1 f fd lO (spB C 1) := by
 refine F.oq uU fun _ _ _ _ H _ Q E hr h => ?_
 ·obtain ⟨a, l, r, rfl, hso, ra, q⟩ := h
  refine ⟨_, QSs.h (aC (aM (aW (pv 0) rfl))), ?_⟩
  obtain ⟨dx, fs, ha, hf⟩ := id ra
  rw [hso] at ha
  exact ⟨_, rfl, rdF ha (T.fam.c 1 Z0).cl (T.fam.nn 1 Z0) (hf.nm (by rw [hso]; decide)) (q H (az.refl H))⟩
theorem sO (T : Tx K mg C) (F : Fun K "binds" "Draw.binds" gQ f fd) : aG P w K mg base CX0 1 f fd lM (spB C 2) := by
 refine F.oq uO fun _ _ _ _ H _ Q E hr h => ?_
 ·obtain ⟨a, l, r, rfl, hso, ra, q⟩ := h
  refine ⟨_, QSs.h (aC (aM (aW (pv 0) rfl))), ?_⟩
  obtain ⟨dx, fs, ha, hf⟩ := id ra
  rw [hso] at ha
  exact ⟨_, rfl, rdF ha (T.fam.c 2 Z0).cl (T.fam.nn 2 Z0) (hf.nm (by rw [hso]; decide)) (q H (az.refl H))⟩
theorem sI (T : Tx K mg C) (F : Fun K "binds" "Late.binds" gH f fd) : aG P w K mg base CX0 1 f fd lQ (spB C 3) := by
 refine F.oq uW fun _ _ _ _ H _ Q E hr h => ?_
 ·obtain ⟨a, l, r, rfl, hso, ra, q⟩ := h
  refine ⟨_, QSs.h (aC (aM (aW (pv 0) rfl))), ?_⟩
  obtain ⟨dx, fs, ha, hf⟩ := id ra
  rw [hso] at ha
  exact ⟨_, rfl, rdF ha (T.fam.c 3 Z0).cl (T.fam.nn 3 Z0) (hf.nm (by rw [hso]; decide)) (q H (az.refl H))⟩
theorem sG (T : Tx K mg C) (F : Fun K "binds" "Take.binds" gR f fd) : aG P w K mg base CX0 1 f fd lN (spB C 4) := by
 refine F.oq uQ fun _ _ _ _ H _ Q E hr h => ?_
 ·obtain ⟨a, l, r, rfl, hso, ra, q⟩ := h
  refine ⟨_, QSs.h (aC (aM (aW (pv 0) rfl))), ?_⟩
  obtain ⟨dx, fs, ha, hf⟩ := id ra
  rw [hso] at ha
  exact ⟨_, rfl, rdF ha (T.fam.c 4 Z0).cl (T.fam.nn 4 Z0) (hf.nm (by rw [hso]; decide)) (q H (az.refl H))⟩
theorem pJ (T : Tx K mg C) (F : Fun K "__init__" "Need.__init__" dY f fd) : aG P w K mg base CX0 1 f fd jt (Ef C) := by
 refine F.oq wN fun _ _ _ _ H _ Q E hr h => ?_
 ·obtain ⟨x, dx, r, d, rfl, hso, hx, hts, h10, q⟩ := h
  refine ⟨_, QSs.h (aC (dD (pv 0) (cA cM Z3 T.t_list boot_list (aj (pv 1) au)))), ?_⟩
  obtain ⟨xs, hl, hxl, hxt⟩ := id hts
  refine ⟨_, rfl, d, _, rfl, .inl (SqL.of hl), fun l hl0 => ⟨_, rfl, x, _, dx, _, rfl, (by rw [aA (ak hx hl0)]; exact hx), (T.fam.c 5 Z0).cl, T.fam.nt 5 Z0, lt_of_lt_of_le (zero_lt_one) Z0, ?_⟩⟩
  have hlx : l ≠ x := (ak hx hl0).symm
  refine q l _ hl0 (sb2 hl0) ⟨dx, _, by rw [hso]; exact ao, ?_⟩
  refine ⟨fun k => absurd k Z1, fun _ => ⟨lkP, xs, by rw [aA hlx]; exact ao, hxl, fun j y e => ?_⟩, fun k => absurd k Z1, fun k => absurd k Z1, lkN Z4, lkN Z4, lkN Z4⟩
  obtain ⟨t, et, tm⟩ := hxt j y e
  exact ⟨t, et, tm.but hx (sb2 hl0)⟩
theorem vz {C : Addr} {m : Str} {f : Addr} {fd : FuncData} {q : Str} {st : Stmt} {ps : List Str} {k : Nat} {sp sp' : Sp} (A : MAt K m q st ps f fd) (M : Meth K C m f) (G : aG P w K mg base CX0 k f fd ps sp) (hk : k <= 3) (h : ∀ vs H Q E, sp' vs H Q E -> sp vs H Q E) : VM P w K mg base 3 C m sp' :=
 ⟨f, fd, ps, M, (G.mono hk).imp h, A.b⟩
theorem rdB {C : Nat -> Addr} (T : Tx K mg C) {H : Hp} {a l : Addr} {r : bF} {Q : VK} (ra : gY C H a l r) (g : GoodR r) (q : Pur (.str r.nm) H Q) : MV P w K mg base 3 "binds" (.ref a) H Q := by
 obtain ⟨so, nn, aa, ww, tt⟩ := r
 have h5 : so <= 5 := g.so
 obtain ⟨dx, fs, ha, hf⟩ := id ra
 rcases six h5 with rfl | rfl | rfl | rfl | rfl | rfl
 ·obtain ⟨f, fd, A, M⟩ := T.m_Let_binds
  exact ⟨a, C 0, dx, fs, spB C 0, rfl, ha, hf.nb, (T.fam.c 0 Z0).cl, vz A M (tQ T A.F) Z0 (fun _ _ _ _ h => h), a, l, _, rfl, rfl, ra, q⟩
 ·obtain ⟨f, fd, A, M⟩ := T.m_Deed_binds
  exact ⟨a, C 1, dx, fs, spB C 1, rfl, ha, hf.nb, (T.fam.c 1 Z0).cl, vz A M (sS T A.F) Z0 (fun _ _ _ _ h => h), a, l, _, rfl, rfl, ra, q⟩
 ·obtain ⟨f, fd, A, M⟩ := T.m_Draw_binds
  exact ⟨a, C 2, dx, fs, spB C 2, rfl, ha, hf.nb, (T.fam.c 2 Z0).cl, vz A M (sO T A.F) Z0 (fun _ _ _ _ h => h), a, l, _, rfl, rfl, ra, q⟩
 ·obtain ⟨f, fd, A, M⟩ := T.m_Late_binds
  exact ⟨a, C 3, dx, fs, spB C 3, rfl, ha, hf.nb, (T.fam.c 3 Z0).cl, vz A M (sI T A.F) Z0 (fun _ _ _ _ h => h), a, l, _, rfl, rfl, ra, q⟩
 ·obtain ⟨f, fd, A, M⟩ := T.m_Take_binds
  exact ⟨a, C 4, dx, fs, spB C 4, rfl, ha, hf.nb, (T.fam.c 4 Z0).cl, vz A M (sG T A.F) Z0 (fun _ _ _ _ h => h), a, l, _, rfl, rfl, ra, q⟩
 ·obtain ⟨f, fd, A, M⟩ := T.m_Row_binds
  exact ⟨a, C 5, dx, fs, Ek, rfl, ha, hf.nb, (T.fam.c 5 Z0).cl, vz A M.1 (uy T A.F) Z0 (fun _ _ _ _ h => h), .ref a, rfl, by have e : nn = "" := g.no rfl; rw [<- e]; exact q⟩
theorem pq (T : Tx K mg C) (F : Fun K "__init__" "Part.__init__" dZ f fd) : aG P w K mg base CX0 1 f fd jo (yP C) := by
 refine F.oq wV fun _ _ _ _ H _ Q E hr h => ?_
 ·obtain ⟨x, dx, ad, d, xs, rfl, hx, hl, q⟩ := h
  refine ⟨_, QSs.h (aq (dD (pv 0) (pv 1))
   (aC (dD (pv 0) (cA cM Z3 T.t_list boot_list (aj (pv 2) au))))), ?_⟩
  have hdx : d ≠ x := aF hl hx Z6
  refine ⟨_, rfl, _, rfl, x, _, dx, _, rfl, hx, T.pt.cl.cl, T.pt.na, lt_of_lt_of_le (zero_lt_one) Z0, _, rfl, d, _, rfl, .inl (SqL.of (by rw [aA hdx]; exact hl)), fun l hlf => ⟨_, rfl, x, _, dx, _, rfl, (by rw [aA (jb hlf).2.symm]; exact ao), T.pt.cl.cl, T.pt.nr, lt_of_lt_of_le (gq zero_lt_one) Z0, ?_⟩⟩
  obtain ⟨hl0, hlx⟩ := jb hlf
  exact q l _ hl0 (sb3 hl0) ⟨dx, _, ao, (lkN Z4).trans lkP, lkP, (lkN Z4).trans (lkN Z4), (lkN Z4).trans (lkN Z4), (lkN Z4).trans (lkN Z4)⟩ (by rw [aA hlx]; exact ao)
theorem sr (T : Tx K mg C) (F : Fun K "bound" "Part.bound" gM f fd) : aG P w K mg base CX0 4 f fd iz (Bv C) := by
 refine F.oq o9 fun _ _ _ _ H _ Q E hr h => ?_
 ·obtain ⟨p, ad, l, rs, rfl, hp, hg, q⟩ := h
  have hr3 : aR 3 _ := hr
  refine ⟨_, QSs.h (aq (mX (N := ["row"]) [none] (i := 1) o9.nd rfl (Or.inl rfl) rfl Z5 (bO (aW (pv 0) rfl)) (fun cl C fp s H => (aJ (i := 0) (by decide +kernel : (["row"] : List Str).Nodup) rfl (Or.inl rfl))) (fun cl C fp s H => jL) (fun cl C fp s H => (tZ (P := P) (w := w) (K := K) (mg := mg) (base := base) rfl rfl rfl rfl rfl hr3 (pv 0))))
   (aC (aM (kJ (N := ["name"]) [none] rfl Z5 (bO (pv 1)) (fun cl C fp s H => (aJ (i := 0) (by decide +kernel : (["name"] : List Str).Nodup) rfl (Or.inl rfl))) (fun cl C fp s H => (wH (aK km (pv 0) aL (aN _)))) (fun cl C fp s H => (pv 0)))))), ?_⟩
  obtain ⟨dx, fs, ea, a1, a2, a3, a4, a5, hr0⟩ := id hp
  obtain ⟨xs, hl, hxl, hxt⟩ := id hr0
  refine ⟨_, rfl, rdF ea T.pt.cl.cl T.pt.nr a2 ?_⟩
  have hx12 : xs.length <= sizeLine := le_trans (show xs.length <= 12 by rw [hxl]; exact hg.hi) Z0
  refine ⟨l, rfl, ⟨xs, SqL.of hl⟩, ?_⟩
  refine jM (fun i => (rs.map fun r => V.str r.nm).getD i .non) hx12 (SqL.of hl) (fun i x H' Q' hx sm k => ?_) (fun H' sm b hb => ?_)
  ·have hi : i < rs.length := by rw [<- hxl]; exact (List.getElem?_eq_some_iff.mp hx).1
   obtain ⟨a, t, e2, ra⟩ := hxt i rs[i] (getElem?_eq_getElem hi)
   obtain rfl : x = .ref a := by rw [hx] at e2; exact Option.some.inj e2
   refine ⟨_, rfl, rdB T (ra.same sm) (hg.at (getElem?_eq_getElem hi)) fun H'' s'' => ?_⟩
   have e : (rs.map fun r => V.str r.nm).getD i .non = V.str rs[i].nm := by simp [List.getD, hi]
   rw [<- e]
   exact k H'' s''
  ·have em : (List.range xs.length).map (fun i => (rs.map fun r => V.str r.nm).getD i .non) = rs.map fun r => V.str r.nm := by
    apply ext_getElem
    ·simp [hxl]
    ·intro i h1 h2
     have : i < rs.length := by simpa using h2
     simp [this]
   rw [em]
   refine ⟨_, rfl, b, rfl, ⟨_, SqL.of ao⟩, ?_⟩
   refine Aa isE (by rw [length_map, <- hxl]; exact hx12) (SqL.of ao) (fun x H2 Q2 hx s2 k => ?_) (fun x H2 Q2 hx s2 k => ?_) (fun H2 s2 c hc => ?_)
   ·obtain ⟨r, _, rfl⟩ := mem_map.mp hx
    exact ⟨_, rfl, rfl, _, rfl, k H2 (az.refl H2)⟩
   ·exact ⟨_, rfl, k H2 (az.refl H2)⟩
   ·exact q c _ (sm.free ((az.new hb).free (s2.free hc))) (sm.trans ((az.new hb).trans (s2.put hc))) ao
theorem pL (T : Tx K mg C) (F : Fun K "place_of" "Part.place_of" dX f fd) : aG P w K mg base CX0 4 f fd fW (Cv C) := by
 refine F.oq jd fun _ _ _ _ H _ Q E hr h => ?_
 ·obtain ⟨p, ad, l, rs, z, rfl, hp, hg, q⟩ := h
  have hr3 : aR 3 _ := hr
  refine ⟨_, QSs.h (aq (bz (aK cN (pv 1) aL (aN _)) (aC (aM FN)) aU)
   (aq (dj PassesOwn.never rfl (wJ (K := K) rfl Z3 T.enumerate (aj (aW (pv 0) rfl) au)) (dH (K := K) (n := 2) rfl rfl (aV (aJ (i := 2) jd.nd rfl (Or.inl rfl)) (aV (aJ (i := 3) jd.nd rfl (Or.inl rfl)) du)))
   (aC (bz (aK cN (tZ (P := P) (w := w) (K := K) (mg := mg) (base := base) rfl rfl rfl rfl rfl hr3 (pv 3)) (pv 1) (aN _)) (aC (aM (pv 2))) aU)))
   (aC (aM FN)))), ?_⟩
  obtain ⟨dx, fs, ea, a1, a2, a3, a4, a5, hr0⟩ := id hp
  obtain ⟨xs, hl, hxl, hxt⟩ := id hr0
  refine ⟨_, rfl, rfl, _, rfl, nG (fun he => ?_) (fun he => ?_)⟩
  ·have q' := q H (az.refl H)
   unfold qX at q'
   rw [if_pos (V.str.inj he)] at q'
   exact q'
  ·have hz : ¬ z = "" := fun e => he (congrArg V.str e)
   refine ⟨_, rfl, rdF ea T.pt.cl.cl T.pt.nr a2 ⟨l, rfl, ⟨xs, SqL.of hl⟩, ?_⟩⟩
   refine ue (xs := xs) (fun i σ H2 => ∃ v1 v2, σ = [some (.ref p), some (.str z), v1, v2] /\ az H H2 /\ ∀ (j : Nat) r, j < i -> rs[j]? = some r -> ¬ r.nm = z) ⟨none, none, rfl, az.refl _, fun j r h => absurd h (not_lt_zero _)⟩ (fun i σ H2 hi hv => ?_) (fun i x p0 σ H2 hx hv hp0 => ?_) (fun σ H2 hv => ?_)
   ·obtain ⟨v1, v2, rfl, sm, hb⟩ := hv
    exact sm.seq (SqL.of hl)
   ·obtain ⟨v1, v2, rfl, sm, hb⟩ := hv
    have hi : i < rs.length := by rw [<- hxl]; exact (List.getElem?_eq_some_iff.mp hx).1
    obtain ⟨a, t, e2, ra⟩ := hxt i rs[i] (getElem?_eq_getElem hi)
    obtain rfl : x = .ref a := by rw [hx] at e2; exact Option.some.inj e2
    refine ⟨p0, _, rfl, SqT.of ao, rfl, _, _, rfl, _, _, rfl, rfl, ?_⟩
    refine ⟨_, rfl, rdB T (ra.same (sm.put hp0)) (hg.at (getElem?_eq_getElem hi)) fun H3 s3 => ⟨_, rfl, rfl, _, rfl, nG (fun hy => ?_) (fun hn => ?_)⟩⟩
    ·have q' := q H3 ((sm.put hp0).trans s3)
     rw [yW (getElem?_eq_getElem hi) (V.str.inj hy) hz hb, show ((i : Nat) : Int) = 0 + (i : Int) from (zero_add _).symm] at q'
     exact ⟨_, rfl, q'⟩
    ·refine ⟨_, _, rfl, (sm.put hp0).trans s3, fun j r hj e => ?_⟩
     rcases lt_or_ge j i with k | k
     ·exact hb j r k e
     ·obtain rfl : j = i := by omega
      rw [getElem?_eq_getElem hi] at e
      cases e
      exact fun z => hn (congrArg V.str z)
   ·obtain ⟨v1, v2, rfl, sm, hb⟩ := hv
    have q' := q H2 sm
    rw [Fw hz fun j r e => hb j r (by rw [hxl]; exact (List.getElem?_eq_some_iff.mp e).1) e] at q'
    exact q'
theorem xm (T : Tx K mg C) (F : Fun K "is_orphan" "is_orphan" kj f fd) : aG P w K mg base CX0 2 f fd jV (yq C) := by
 obtain ⟨fag, dag, Aag⟩ := T.aag
 have Gag : aG P w K mg base CX0 1 fag dag iZ um := qi T Aag.F
 refine F.oq rF fun _ _ _ _ H _ Q E hr h => ?_
 ·obtain ⟨p, l, la, ys, zs, rs, rfl, hp, g, hl, hup, q⟩ := h
  have hr1 : aR 1 _ := hr
  refine ⟨_, QSs.h (aq (aO (i := 2) rF.nd rfl (Or.inl rfl) (bj Aag Gag hr1 (aj (aW (pv 0) rfl) au)))
   (aC (aM (Az (iI km (pv 2) aL (aN _)) (zW (iI qD (pv 2) (pv 1) Z3)))))), ?_⟩
  obtain ⟨dx, fs, ea, a1, a2, a3, a4, a5, hr0⟩ := id hp
  refine ⟨_, rfl, rdF ea T.pt.cl.cl T.pt.na a1 ⟨ys, rfl, g, fun H1 s1 => ?_⟩⟩
  have hfl : (zs.map V.str).all mj = true := by rw [all_eq_true]; intro v hv; obtain ⟨z, _, rfl⟩ := mem_map.mp hv; rfl
  by_cases hd : ys.dropLast = []
  ·have e : rY ys = "" := by unfold rY; rw [if_pos hd]
   exact ⟨_, rfl, rfl, _, rfl, xx (decide_eq_true (congrArg V.str e)) (q H1 s1)⟩
  ·have e : rY ys = dotted ys.dropLast := by unfold rY; rw [if_neg hd]
   have hz : dotted ys.dropLast ∈ zs := hup.resolve_left hd
   have hin : inV (V.str (rY ys)) (zs.map V.str) = true := by rw [e]; exact Gs (mem_map.mpr ⟨_, hz, rfl⟩)
   by_cases hne : rY ys = ""
   ·exact ⟨_, rfl, rfl, _, rfl, xx (decide_eq_true (congrArg V.str hne)) (q H1 s1)⟩
   ·refine ⟨_, rfl, rfl, _, rfl, JD (decide_eq_false fun z => hne (V.str.inj z)) ⟨_, rfl, _, rfl, la, _, rfl, .inl (SqL.of (s1 _ _ hl)), rfl, hfl, ?_⟩⟩
    have q2 := q H1 s1
    have e2 : (if true = true then !inV (V.str (rY ys)) (zs.map V.str) else inV (V.str (rY ys)) (zs.map V.str)) = false := by rw [hin]; rfl
    rw [<- e2] at q2
    exact q2
theorem yw (T : Tx K mg C) (F : Fun K "is_clash" "is_clash" mV f fd) : aG P w K mg base CX0 5 f fd mW (Cw C) := by
 obtain ⟨fbi, dbi, Abi, M_bound⟩ := T.m_Part_bound
 have Gbi : aG P w K mg base CX0 4 fbi dbi iz (Bv C) := sr T Abi.F
 refine F.oq zN fun _ _ _ _ H _ Q E hr h => ?_
 ·obtain ⟨p, l, la, ys, zs, rs, rfl, hp, g, hg, hl, hcl, q⟩ := h
  have hr4 : aR 4 _ := hr
  refine ⟨_, QSs.h (aC (aM (bf (yO rfl) Z3 T.any boot_any (aj (kJ (N := ["name", "addresses", "part"]) [none, some 1, some 0] rfl Z5 (bO (iY (pv 0) T.pt.cl.cl M_bound Gbi hr4 Abi.b .nil bG)) (fun cl C fp s H => (aJ (i := 0) (by decide +kernel : (["name", "addresses", "part"] : List Str).Nodup) rfl (Or.inl rfl))) (fun cl C fp s H => jL) (fun cl C fp s H => (iI (J3 (K := K) rfl) (aP pM (aP pM (wK (K := K) rfl (pv 2) rfl) aL) (pv 0)) (pv 1) Z3))) au)))), ?_⟩
  obtain ⟨dx, fs, ea, a1, a2, a3, a4, a5, hr0⟩ := id hp
  have hfl : (zs.map V.str).all mj = true := by rw [all_eq_true]; intro v hv; obtain ⟨z, _, rfl⟩ := mem_map.mp hv; rfl
  have hnl : (rB rs).length <= 12 := by
   have h1 := length_filter_le isE (rs.map fun r => V.str r.nm)
   rw [length_map] at h1
   exact le_trans h1 hg.hi
  refine ⟨_, rfl, p, dx, fs, rfl, ea, a3, p, _, l, rs, rfl, hp, hg, fun b H1 hb s1 hbl => ⟨b, rfl, ⟨_, SqL.of hbl⟩, ?_⟩⟩
  refine jM (fun _ => V.bl false) (le_trans hnl Z0) (SqL.of hbl) (fun i x H' Q' hx sm k => ?_) (fun H' sm c hc => ?_)
  ·obtain ⟨r, hr, rfl, hn⟩ := Ae (mem_of_getElem? hx)
   have s2 := s1.trans sm
   have h8 : r.nm.length <= 8 := (hg.ok r hr).nl
   have h36 := g.len
   refine ⟨_, rfl, rdF (s2 _ _ ea) T.pt.cl.cl T.pt.na a1 ⟨_, _, rfl, rfl, abS h36 IK, _, rfl, _, _, rfl, rfl, abS (alS h36 IK) h8, _, rfl, la, _, rfl, .inl (SqL.of (s2 _ _ hl)), rfl, hfl, ?_⟩⟩
   have hin : inV (V.str (dotted ys ++ "." ++ r.nm)) (zs.map V.str) = false := Eh fun v hv => by
    obtain ⟨z, hz, rfl⟩ := mem_map.mp hv
    exact ⟨z, rfl, fun e => hcl r hr hn (e ▸ hz)⟩
   have k2 : Q' (V.bl false) H' := k H' (az.refl _)
   rw [<- hin] at k2
   exact k2
  ·refine ⟨c, List.replicate (rB rs).length false, rfl, SqL.of (ao.trans ?_), ?_⟩
   ·rw [List.map_replicate]
    congr 2
    apply ext_getElem
    ·simp
    ·intro i h1 h2
     simp
   ·have e : ((List.replicate (rB rs).length false).any id) = false := by simp
    show Q (V.bl ((List.replicate (rB rs).length false).any id)) _
    rw [e]
    exact q _ ((s1.trans sm).put hc)
theorem uD (T : Tx K mg C) (F : Fun K "check_parts" "check_parts" iJ f fd) : aG P w K mg base CX0 6 f fd iK (Bo C) := by
 obtain ⟨fa6, da6, Aa6⟩ := T.aa6
 have Ga6 : aG P w K mg base CX0 2 fa6 da6 jV (yq C) := xm T Aa6.F
 obtain ⟨fa0, da0, Aa0⟩ := T.aa0
 have Ga0 : aG P w K mg base CX0 5 fa0 da0 mW (Cw C) := yw T Aa0.F
 refine F.oq iG fun _ _ _ _ H _ Q E hr h => ?_
 ·obtain ⟨l, ps, rfl, hps, g, q⟩ := h
  have hr2 : aR 2 _ := hr.mono Z0
  have hr5 : aR 5 _ := hr
  refine ⟨_, QSs.h (aq (mX (N := ["part"]) [none] (i := 1) iG.nd rfl (Or.inl rfl) rfl Z5 (bO (pv 0)) (fun cl C fp s H => (aJ (i := 0) (by decide +kernel : (["part"] : List Str).Nodup) rfl (Or.inl rfl))) (fun cl C fp s H => jL) (fun cl C fp s H => (wK (K := K) rfl (pv 0) rfl)))
   (aC (dj PassesOwn.never rfl (wJ (K := K) rfl Z3 T.enumerate (aj (pv 0) au)) (dH (K := K) (n := 2) rfl rfl (aV (aJ (i := 2) iG.nd rfl (Or.inl rfl)) (aV (aJ (i := 3) iG.nd rfl (Or.inl rfl)) du)))
   (aq (bz (aK Ml (pv 2) (G9 T.g_MOST_PARTS) (aN _)) bN aU)
   (aq (bz (aK qI (aW (pv 3) rfl) (gP mK (pv 1) ju (jw (pv 2))) Z3) bN aU)
   (aq (bz (fY (bj Aa6 Ga6 hr2 (aj (pv 3) (aj (pv 1) au)))) bN aU)
   (aC (bz (fY (bj Aa0 Ga0 hr5 (aj (pv 3) (aj (pv 1) au)))) bN aU)))))))), ?_⟩
  obtain ⟨xs, hl, hxl, hxt⟩ := id hps
  have h12 := g.hi
  have hx12 : xs.length <= sizeLine := le_trans (show xs.length <= 12 by omega) Z0
  refine ⟨_, rfl, l, rfl, ⟨_, SqL.of hl⟩, jM (fun i => ((adS ps).map V.str).getD i .non) hx12 (SqL.of hl) (fun i x H' Q' hx sm k => ?_) (fun H1 s1 b hb => ?_)⟩
  ·have hi : i < ps.length := by rw [<- hxl]; exact (List.getElem?_eq_some_iff.mp hx).1
   obtain ⟨a, lr, e2, pa⟩ := hxt i ps[i] (getElem?_eq_getElem hi)
   obtain rfl : x = .ref a := by rw [hx] at e2; exact Option.some.inj e2
   obtain ⟨dx, fs, ea, a1, _⟩ := pa.same sm
   have k2 : Q' (((adS ps).map V.str).getD i .non) H' := k H' (az.refl _)
   rw [KJ hi] at k2
   exact ⟨_, rfl, rdF ea T.pt.cl.cl T.pt.na a1 k2⟩
  rw [Ht hxl]
  have s2 : az H (upd H1 b (.lst ((adS ps).map V.str))) := s1.put hb
  have hb2 : (upd H1 b (.lst ((adS ps).map V.str))) b = some (.lst ((adS ps).map V.str)) := ao
  generalize upd H1 b (.lst ((adS ps).map V.str)) = H2 at s2 hb2
  have hfl : ∀ zs : List Str, (zs.map V.str).all mj = true := Fj
  refine ⟨_, rfl, l, rfl, ⟨xs, SqL.of (s2 _ _ hl)⟩, ?_⟩
  refine ue (xs := xs) (fun i σ H' => ∃ v2 v3, σ = [some (.ref l), some (.ref b), v2, v3] /\ az H2 H') ⟨none, none, rfl, az.refl _⟩ (fun i σ H' hi hv => ?_) (fun i x p0 σ H' hx hv hp0 => ?_) (fun σ H' hv => ?_)
  ·obtain ⟨v2, v3, rfl, sm⟩ := hv
   exact SqL.of (sm _ _ (s2 _ _ hl))
  ·obtain ⟨v2, v3, rfl, sm⟩ := hv
   have hi : i < ps.length := by rw [<- hxl]; exact (List.getElem?_eq_some_iff.mp hx).1
   have er : ps[i]? = some ps[i] := getElem?_eq_getElem hi
   obtain ⟨a, lr, e2, pa0⟩ := hxt i ps[i] er
   obtain rfl : x = .ref a := by rw [hx] at e2; exact Option.some.inj e2
   have gp := g.at er
   have s3 : az H (upd H' p0 (.tup [.int (0 + (i : Int)), .ref a])) := (s2.trans sm).put hp0
   have s23 : az H2 (upd H' p0 (.tup [.int (0 + (i : Int)), .ref a])) := sm.put hp0
   obtain ⟨dx, fs, ea, a1, _⟩ := pa0.same s3
   refine ⟨p0, _, rfl, SqT.of ao, rfl, _, _, rfl, _, _, rfl, rfl, ?_⟩
   refine ⟨_, rfl, _, _, rfl, rfl, _, rfl, cj (decide_eq_false Z1) ?_⟩
   refine ⟨_, rfl, rdF ea T.pt.cl.cl T.pt.na a1 ⟨_, rfl, _, rfl, _, rfl, b, _, rfl, SqL.of (s23 _ _ hb2), fun c hc => ?_⟩⟩
   have s4 : az H (upd (upd H' p0 (.tup [.int (0 + (i : Int)), .ref a])) c (.lst (gU ((adS ps).map V.str) none (some (0 + (i : Int)))))) := s3.put hc
   have s24 : az H2 (upd (upd H' p0 (.tup [.int (0 + (i : Int)), .ref a])) c (.lst (gU ((adS ps).map V.str) none (some (0 + (i : Int)))))) := s23.put hc
   have ec : gU ((adS ps).map V.str) none (some (0 + (i : Int))) = ((adS ps).take i).map V.str := by rw [zero_add, uG, map_take]
   have hc4 : (upd (upd H' p0 (.tup [.int (0 + (i : Int)), .ref a])) c (.lst (gU ((adS ps).map V.str) none (some (0 + (i : Int)))))) c = some (.lst (((adS ps).take i).map V.str)) := ao.trans (by rw [ec])
   generalize upd (upd H' p0 (.tup [.int (0 + (i : Int)), .ref a])) c (.lst (gU ((adS ps).map V.str) none (some (0 + (i : Int))))) = H4 at s4 s24 hc4
   refine ⟨c, ((adS ps).take i).map V.str, rfl, .inl (SqL.of hc4), rfl, hfl _, _, rfl, cj (CJ g.nd er) ?_⟩
   refine ⟨_, rfl, _, rfl, a, lr, b, ps[i].ad, adS ps, ps[i].rs, rfl, pa0.same s4, gp.ad, s24 _ _ hb2, g.up _ (getElem_mem hi), fun H5 s5 => ⟨_, rfl, iR ?_⟩⟩
   refine ⟨_, rfl, _, rfl, a, lr, b, ps[i].ad, adS ps, ps[i].rs, rfl, pa0.same (s4.trans s5), gp.ad, gp.rs, (s24.trans s5) _ _ hb2, g.cl _ (getElem_mem hi), fun H6 s6 => ⟨_, rfl, iR ?_⟩⟩
   exact ⟨_, _, rfl, s24.trans (s5.trans s6)⟩
  ·obtain ⟨v2, v3, rfl, sm⟩ := hv
   exact q _ (s2.trans sm)
theorem oK (T : Tx K mg C) (F : Fun K "__init__" "House.__init__" dq f fd) : aG P w K mg base CX0 7 f fd iD (Fe C) := by
 obtain ⟨fbc, dbc, Abc⟩ := T.abc
 have Gbc : aG P w K mg base CX0 6 fbc dbc iK (Bo C) := uD T Abc.F
 refine F.oq uP fun _ _ _ _ H _ Q E hr h => ?_
 ·obtain ⟨x, dx, d, ps, xs, rfl, hx, hl0, hps, g, q⟩ := h
  have hr6 : aR 6 _ := hr
  refine ⟨_, QSs.h (aq (bh (bj Abc Gbc hr6 (aj (pv 1) au)))
   (aC (dD (pv 0) (cA cM Z3 T.t_list boot_list (aj (pv 1) au))))), ?_⟩
  refine ⟨_, rfl, d, ps, rfl, ⟨xs, hl0, hps.1, hps.2⟩, g, fun H1 s1 => ?_⟩
  have hl := s1 _ _ hl0
  have hx1 := s1 _ _ hx
  refine ⟨_, rfl, d, _, rfl, .inl (SqL.of hl), fun l hl0 => ⟨_, rfl, x, _, dx, _, rfl, (by rw [aA (ak hx1 hl0)]; exact hx1), T.hs.cl.cl, T.hs.nt, lt_of_lt_of_le zero_lt_one Z0, ?_⟩⟩
  have hlx : l ≠ x := (ak hx1 hl0).symm
  have sb : SameBut x H1 (upd (upd H1 l (.lst xs)) x (.ins (C 8) dx (aX "told" (.ref l) []))) := sb2 hl0
  exact q l _ (s1.free hl0) (fun bb o e hb => sb bb o (s1 _ _ e) hb) ⟨dx, _, ao, lkP, lkN Z4, lkN Z4, lkN Z4⟩ (by rw [aA hlx]; exact ao)
theorem uf (T : Tx K mg C) (F : Fun K "has" "House.has" iB f fd) : aG P w K mg base CX0 1 f fd jq (Gf C) := by
 refine F.oq xK fun _ _ _ _ H _ Q E hr h => ?_
 ·obtain ⟨h0, l, ps, z, rfl, hh, g, q⟩ := h
  refine ⟨_, QSs.h (aC (aM (bf (yO rfl) Z3 T.any boot_any (aj (kJ (N := ["part", "address"]) [none, some 1] rfl Z5 (bO (aW (pv 0) rfl)) (fun cl C fp s H => (aJ (i := 0) (by decide +kernel : (["part", "address"] : List Str).Nodup) rfl (Or.inl rfl))) (fun cl C fp s H => jL) (fun cl C fp s H => (iI cN (wK (K := K) rfl (pv 0) rfl) (pv 1) (aN _)))) au)))), ?_⟩
  obtain ⟨dx, fs, ea, a1, a2, a3, a4, xs, hl, hxl, hxt⟩ := id hh
  have h12 := g.hi
  have hx12 : xs.length <= sizeLine := le_trans (show xs.length <= 12 by omega) Z0
  refine ⟨_, rfl, rdF ea T.hs.cl.cl T.hs.nt a1 ⟨l, rfl, ⟨_, SqL.of hl⟩, jM (fun i => V.bl (((adS ps).map fun y => decide (V.str y = V.str z)).getD i false)) hx12 (SqL.of hl) (fun i x H' Q' hx sm k => ?_) (fun H1 s1 b hb => ?_)⟩⟩
  ·have hi : i < ps.length := by rw [<- hxl]; exact (List.getElem?_eq_some_iff.mp hx).1
   obtain ⟨a, lr, e2, pa⟩ := hxt i ps[i] (getElem?_eq_getElem hi)
   obtain rfl : x = .ref a := by rw [hx] at e2; exact Option.some.inj e2
   obtain ⟨dx, fs, ea, a1, _⟩ := pa.same sm
   have k2 : Q' (V.bl (((adS ps).map fun y => decide (V.str y = V.str z)).getD i false)) H' := k H' (az.refl _)
   have e : ((adS ps).map fun y => decide (V.str y = V.str z)).getD i false = decide (V.str (dotted ps[i].ad) = V.str z) := by simp [adS, List.getD, hi]
   rw [e] at k2
   exact ⟨_, rfl, rdF ea T.pt.cl.cl T.pt.na a1 ⟨_, rfl, rfl, k2⟩⟩
  have em : (List.range xs.length).map (fun i => V.bl (((adS ps).map fun y => decide (V.str y = V.str z)).getD i false)) = ((adS ps).map fun y => decide (V.str y = V.str z)).map V.bl := by
   have hlen : (adS ps).length = ps.length := by unfold adS; rw [length_map]
   apply ext_getElem
   ·simp [hxl, hlen]
   ·intro i h1 h2
    have : i < (adS ps).length := by simpa using h2
    simp [this]
  refine ⟨b, (adS ps).map fun y => decide (V.str y = V.str z), rfl, SqL.of (ao.trans (by rw [em])), ?_⟩
  have e : (((adS ps).map fun y => decide (V.str y = V.str z)).any id) = decide (z ∈ adS ps) := by
   rw [List.any_map]
   by_cases hz : z ∈ adS ps
   ·rw [decide_eq_true hz, any_eq_true]
    exact ⟨z, hz, decide_eq_true rfl⟩
   ·rw [decide_eq_false hz, List.any_eq_false]
    intro y hy k
    exact hz (V.str.inj (of_decide_eq_true k) ▸ hy)
  show Q (V.bl (((adS ps).map fun y => decide (V.str y = V.str z)).any id)) _
  rw [e]
  exact q _ (s1.put hb)
theorem jf (T : Tx K mg C) (F : Fun K "part" "House.part" gJ f fd) : aG P w K mg base CX0 3 f fd dR (oA C) := by
 refine F.oq o8 fun _ _ _ _ H _ Q E hr h => ?_
 ·obtain ⟨H0, h0, l, ps, z, rfl, hh, s0, hz, q⟩ := h
  refine ⟨_, QSs.h (aq (dj PassesOwn.never rfl (bO (aW (pv 0) rfl)) (aJ (i := 2) o8.nd rfl (Or.inl rfl))
   (aC (bz (aK cN (aW (pv 2) rfl) (pv 1) (aN _)) (aC (aM (pv 2))) aU)))
   bN), ?_⟩
  obtain ⟨dx, fs, ea, a1, a2, a3, a4, xs, hl, hxl, hxt⟩ := id hh
  have ea := s0 _ _ ea
  have hl1 := s0 _ _ hl
  refine ⟨_, rfl, rdF ea T.hs.cl.cl T.hs.nt a1 ⟨l, rfl, ⟨xs, SqL.of hl1⟩, ?_⟩⟩
  refine cY (xs := xs) (fun i σ H' => ∃ v2, σ = [some (.ref h0), some (.str z), v2] /\ az H H' /\ ∀ (j : Nat) p, j < i -> ps[j]? = some p -> ¬ dotted p.ad = z) ⟨none, rfl, az.refl _, fun j p hj => absurd hj (not_lt_zero _)⟩ ?_ ?_ ?_
  ·rintro i σ H' _ ⟨v2, rfl, sm, _⟩
   exact SqL.of (sm _ _ hl1)
  ·rintro i x σ H' hx ⟨v2, rfl, sm, hb⟩
   have hi : i < ps.length := by rw [<- hxl]; exact (List.getElem?_eq_some_iff.mp hx).1
   have er : ps[i]? = some ps[i] := getElem?_eq_getElem hi
   obtain ⟨a, lr, e2, pa⟩ := hxt i ps[i] er
   obtain rfl : x = .ref a := by rw [hx] at e2; exact Option.some.inj e2
   obtain ⟨dy, gs, eb, b1, _⟩ := pa.same (s0.trans sm)
   refine ⟨_, rfl, rdF eb T.pt.cl.cl T.pt.na b1 ⟨_, rfl, rfl, _, rfl, nG (fun hy => ?_) (fun hn => ?_)⟩⟩
   ·exact ⟨_, rfl, q i _ a lr H' sm er (V.str.inj hy) pa⟩
   ·refine ⟨_, rfl, sm, fun j p hj e => ?_⟩
    rcases lt_or_ge j i with k | k
    ·exact hb j p k e
    ·obtain rfl : j = i := by omega
     rw [er] at e
     cases e
     exact fun z => hn (congrArg V.str z)
  ·rintro σ H' ⟨v2, rfl, sm, hb⟩
   obtain ⟨p, hp, e⟩ := mem_map.mp hz
   obtain ⟨j, hj, ej⟩ := getElem_of_mem hp
   exact absurd e (hb j p Z1 (by rw [getElem?_eq_getElem hj, ej]))
theorem ig (T : Tx K mg C) (F : Fun K "__init__" "Filling.__init__" cP f fd) : aG P w K mg base CX0 1 f fd dO (vY C) := by
 refine F.oq rP fun _ _ _ _ H _ Q E hr h => ?_
 ·obtain ⟨x, dx, h0, rfl, hx, q⟩ := h
  refine ⟨_, QSs.h (aq (dD (pv 0) (pv 1))
   (aq (dD (pv 0) nT)
   (aq (dD (pv 0) nT)
   (aq (dD (pv 0) (b8 au))
   (aq (dD (pv 0) (b8 au))
   (aC (dD (pv 0) (b8 au)))))))), ?_⟩
  refine ⟨_, rfl, _, rfl, x, _, dx, _, rfl, hx, T.fl.cl.cl, T.fl.nh, Z0, ?_⟩
  have sb : SameBut x H (upd H x (.ins (C 9) dx (aX "house" (.ref h0) []))) := fun b o e hb => by rw [aA hb]; exact e
  have hx1 : upd H x (.ins (C 9) dx (aX "house" (.ref h0) [])) x = some (.ins (C 9) dx (aX "house" (.ref h0) [])) := ao
  generalize upd H x (.ins (C 9) dx (aX "house" (.ref h0) [])) = H1 at sb hx1 ⊢
  intro l1 n1
  refine ⟨_, rfl, x, _, dx, _, rfl, (by rw [aA (ak hx1 n1)]; exact hx1), T.fl.cl.cl, T.fl.nl, lt_of_lt_of_le (gq zero_lt_one) Z0, ?_⟩
  have a1 := DK (o := .dK []) (o2 := .ins (C 9) dx (aX "held" (.ref l1) (aX "house" (.ref h0) []))) sb hx1 n1
  have c1 := a1.hl
  generalize upd (upd H1 l1 (.dK [])) x (.ins (C 9) dx (aX "held" (.ref l1) (aX "house" (.ref h0) []))) = H2 at a1 c1 ⊢
  intro l2 n2
  refine ⟨_, rfl, x, _, dx, _, rfl, (by rw [aA (ak a1.hx n2)]; exact a1.hx), T.fl.cl.cl, T.fl.nr, lt_of_lt_of_le (gq (gq zero_lt_one)) Z0, ?_⟩
  have a2 := DK (o := .dK []) (o2 := .ins (C 9) dx (aX "reach" (.ref l2) (aX "held" (.ref l1) (aX "house" (.ref h0) [])))) a1.sb a1.hx n2
  have x12 := ak c1 n2
  replace c1 := a2.s _ _ c1 a1.ne
  have c2 := a2.hl
  generalize upd (upd H2 l2 (.dK [])) x (.ins (C 9) dx (aX "reach" (.ref l2) (aX "held" (.ref l1) (aX "house" (.ref h0) [])))) = H3 at a2 c1 c2 ⊢
  refine ⟨zero_le _, fun l3 n3 => ?_⟩
  refine ⟨_, rfl, x, _, dx, _, rfl, (by rw [aA (ak a2.hx n3)]; exact a2.hx), T.fl.cl.cl, T.fl.ne, lt_of_lt_of_le (gq (gq (gq zero_lt_one))) Z0, ?_⟩
  have a3 := DK (o := .lst []) (o2 := .ins (C 9) dx (aX "ended" (.ref l3) (aX "reach" (.ref l2) (aX "held" (.ref l1) (aX "house" (.ref h0) []))))) a2.sb a2.hx n3
  replace c1 := a3.s _ _ c1 a1.ne
  replace c2 := a3.s _ _ c2 a2.ne
  have c3 := a3.hl
  generalize upd (upd H3 l3 (.lst [])) x (.ins (C 9) dx (aX "ended" (.ref l3) (aX "reach" (.ref l2) (aX "held" (.ref l1) (aX "house" (.ref h0) []))))) = H4 at a3 c1 c2 c3 ⊢
  refine ⟨zero_le _, fun l4 n4 => ?_⟩
  refine ⟨_, rfl, x, _, dx, _, rfl, (by rw [aA (ak a3.hx n4)]; exact a3.hx), T.fl.cl.cl, T.fl.nb, lt_of_lt_of_le (gq (gq (gq (gq zero_lt_one)))) Z0, ?_⟩
  have a4 := DK (o := .lst []) (o2 := .ins (C 9) dx (aX "begun" (.ref l4) (aX "ended" (.ref l3) (aX "reach" (.ref l2) (aX "held" (.ref l1) (aX "house" (.ref h0) [])))))) a3.sb a3.hx n4
  have x34 := ak c3 n4
  replace c1 := a4.s _ _ c1 a1.ne
  replace c2 := a4.s _ _ c2 a2.ne
  replace c3 := a4.s _ _ c3 a3.ne
  have c4 := a4.hl
  generalize upd (upd H4 l4 (.lst [])) x (.ins (C 9) dx (aX "begun" (.ref l4) (aX "ended" (.ref l3) (aX "reach" (.ref l2) (aX "held" (.ref l1) (aX "house" (.ref h0) [])))))) = H5 at a4 c1 c2 c3 c4 ⊢
  refine ⟨zero_le _, fun l5 n5 => ?_⟩
  refine ⟨_, rfl, x, _, dx, _, rfl, (by rw [aA (ak a4.hx n5)]; exact a4.hx), T.fl.cl.cl, T.fl.nv, lt_of_lt_of_le (gq (gq (gq (gq (gq zero_lt_one))))) Z0, ?_⟩
  have a5 := DK (o := .lst []) (o2 := .ins (C 9) dx (aX "events" (.ref l5) (aX "begun" (.ref l4) (aX "ended" (.ref l3) (aX "reach" (.ref l2) (aX "held" (.ref l1) (aX "house" (.ref h0) []))))))) a4.sb a4.hx n5
  have x35 := ak c3 n5
  have x45 := ak c4 n5
  replace c1 := a5.s _ _ c1 a1.ne
  replace c2 := a5.s _ _ c2 a2.ne
  replace c3 := a5.s _ _ c3 a3.ne
  replace c4 := a5.s _ _ c4 a4.ne
  have c5 := a5.hl
  generalize upd (upd H5 l5 (.lst [])) x (.ins (C 9) dx (aX "events" (.ref l5) (aX "begun" (.ref l4) (aX "ended" (.ref l3) (aX "reach" (.ref l2) (aX "held" (.ref l1) (aX "house" (.ref h0) []))))))) = H6 at a5 c1 c2 c3 c4 c5 ⊢
  refine q ⟨h0, l1, l2, l3, l4, l5⟩ H6 ⟨rfl, a5.sb, ⟨dx, _, a5.hx, ?_⟩, c1, c2, c3, c4, c5, a1.f, a2.f, a3.f, a4.f, a5.f, x12, x34, x35, x45⟩
  refine ⟨?_, ?_, ?_, ?_, ?_, lkP, fun m hm => ?_, lt_of_lt_of_le (gq (gq (gq (gq (gq (gq zero_lt_one)))))) Z0⟩
  ·rw [lkN Z4, lkN Z4, lkN Z4, lkN Z4, lkN Z4]; exact lkP
  ·rw [lkN Z4, lkN Z4, lkN Z4, lkN Z4]; exact lkP
  ·rw [lkN Z4, lkN Z4, lkN Z4]; exact lkP
  ·rw [lkN Z4, lkN Z4]; exact lkP
  ·rw [lkN Z4]; exact lkP
  ·obtain ⟨m1, m2, m3, m4, m5, m6⟩ := Jd m hm
   rw [lkN m6, lkN m5, lkN m4, lkN m3, lkN m2, lkN m1]; rfl
theorem oR (T : Tx K mg C) (F : Fun K "copied" "Filling.copied" dC f fd) : aG P w K mg base CX0 3 f fd d9 (uz C) := by
 obtain ⟨fao, dao, Aao, M_Filling⟩ := T.i_Filling
 have Gao : aG P w K mg base CX0 1 fao dao dO (vY C) := ig T Aao.F
 refine F.oq gw fun _ _ _ _ H _ Q E hr h => ?_
 ·obtain ⟨f, d, rfl, h⟩ := h
  have hr2 : aR 2 _ := hr
  refine ⟨_, QSs.h (aq (aO (i := 1) gw.nd rfl (Or.inl rfl) (rJ M_Filling Aao.b Gao hr2 T.c_Filling (aj (aW (pv 0) rfl) au)))
   (aq (dj PassesOwn.never rfl (bO (aW (pv 0) rfl)) (aJ (i := 2) gw.nd rfl (Or.inl rfl))
   (aq (QS.mk (lK (aR.u1 hr) (aW (pv 1) rfl) (pv 2) (cA (tR rfl) Z3 T.t_dict boot_dict (aj (dw (aR.u1 hr) (aW (pv 0) rfl) (pv 2) (fun _ _ => rfl)) au)) rfl))
   (aC (QS.mk (lK (aR.u1 hr) (aW (pv 1) rfl) (pv 2) (cA (tR rfl) Z3 T.t_dict boot_dict (aj (dw (aR.u1 hr) (aW (pv 0) rfl) (pv 2) (fun _ _ => rfl)) au)) rfl)))))
   (aq (dD (pv 1) (cA cM Z3 T.t_list boot_list (aj (aW (pv 0) rfl) au)))
   (aC (aM (pv 1)))))), ?_⟩
  have fa : bY C H f d := by
   rcases h with ⟨em, _⟩ | ⟨ad, bn, fu, _⟩
   ·exact em.fl
   ·exact fu.fl
  obtain ⟨dx, fs, hf, ff⟩ := fa
  refine ⟨_, rfl, rdF hf T.fl.cl.cl T.fl.nh ff.h fun x dx0 hx hdx hne => ⟨x, dx0, d.h, rfl, ao, fun d2 H1 nw => ⟨rfl, ?_⟩⟩⟩
  have c1 := Bs hx hdx nw
  have e1 := nw.hl
  have e2 := nw.re
  clear nw
  have hf1 := c1.s _ _ hf
  rcases h with ⟨em, q⟩ | ⟨ad, bn, fu, q⟩
  ·refine ⟨_, rfl, rdF hf1 T.fl.cl.cl T.fl.ne ff.en ⟨d.en, rfl, ⟨_, SqL.of (c1.s _ _ em.en)⟩, ?_⟩⟩
   refine cY (xs := []) (fun i σ H' => σ = [some (.ref f), some (.ref x), none] /\ H' = H1) ⟨rfl, rfl⟩ (fun i σ H' hi hv => ?_) (fun i x σ H' hx hv => ?_) (fun σ H' hv => ?_)
   ·obtain ⟨_, rfl⟩ := hv
    exact SqL.of (c1.s _ _ em.en)
   ·cases hx
   ·obtain ⟨rfl, rfl⟩ := hv
    refine ⟨_, rfl, rdF hf1 T.fl.cl.cl T.fl.ne ff.en ⟨d.en, [], rfl, .inl (SqL.of (c1.s _ _ em.en)), fun l hl => ?_⟩⟩
    obtain ⟨dx2, fs2, hx2, ff2⟩ := c1.fl
    refine ⟨_, rfl, x, _, dx2, fs2, rfl, (by rw [aA (ak hx2 hl)]; exact hx2), T.fl.cl.cl, T.fl.ne, lt_of_lt_of_le ff2.ln Z0, ?_⟩
    ·have c2 := Cg (ys := []) c1 hx2 ff2 hl
     have sb : SameBut x H' (upd (upd H' l (.lst [])) x (.ins (C 9) dx2 (aX "ended" (.ref l) fs2))) := sb2 hl
     have h3 : upd (upd H' l (.lst [])) x (.ins (C 9) dx2 (aX "ended" (.ref l) fs2)) l = some (.lst []) := by rw [aA (ak hx2 hl).symm]; exact ao
     generalize upd (upd H' l (.lst [])) x (.ins (C 9) dx2 (aX "ended" (.ref l) fs2)) = H2 at c2 sb h3 ⊢
     exact ⟨_, rfl, q x _ H2 c2 ⟨c2.fl, sb _ _ e1 (aF e1 hx2 Z6), sb _ _ e2 (aF e2 hx2 Z6), h3⟩⟩
  ·obtain ⟨e, kvs, g1, g2, g3⟩ := fu.hl
   obtain ⟨e', r1, r2⟩ := fu.re
   refine ⟨_, rfl, rdF hf1 T.fl.cl.cl T.fl.ne ff.en ⟨d.en, rfl, ⟨_, SqL.of (c1.s _ _ fu.en)⟩, ?_⟩⟩
   refine cY (xs := [.str ad]) (fun i σ H' => ∃ v2, σ = [some (.ref f), some (.ref x), v2] /\ nD C H H' x d2 d.h /\ ((i = 0 /\ H' = H1) \/ (i = 1 /\ ∃ p p2, H' d2.hl = some (.dK [(.inr ad, .ref p)]) /\ H' p = some (.dK kvs) /\ H' d2.re = some (.dK [(.inr ad, .ref p2)]) /\ H' p2 = some (.dK [])))) ⟨none, rfl, c1, .inl ⟨rfl, rfl⟩⟩ (fun i σ H' hi hv => ?_) (fun i y σ H' hx hv => ?_) (fun σ H' hv => ?_)
   ·obtain ⟨_, _, c, _⟩ := hv
    exact SqL.of (c.s _ _ fu.en)
   ·obtain ⟨v2, rfl, c, h⟩ := hv
    rcases h with ⟨rfl, rfl⟩ | ⟨rfl, _⟩
    ·obtain rfl := Option.some.inj hx
     have dg : gK H' d.hl (V.str ad) (some (.ref e)) := cB (r := []) (k := (.inr ad : Key)) (p := (.inr ad, .ref e)) rfl ▸ gK.k (k := .inr ad) (c.s _ _ g1)
     refine ⟨_, rfl, rdF hf1 T.fl.cl.cl T.fl.nl ff.hl ⟨_, rfl, d.hl, _, rfl, dg, e, kvs, rfl, .inl (c.s _ _ g2), fun p hp => ?_⟩⟩
     have sn : az H' (upd H' p (.dK kvs)) := az.new hp
     have cp : upd H' p (.dK kvs) p = some (.dK kvs) := ao
     replace c := c.go sn
     have x1 : d2.hl ≠ p := ak e1 hp
     have x2 : d2.re ≠ p := ak e2 hp
     replace e1 := sn _ _ e1
     replace e2 := sn _ _ e2
     clear sn
     generalize upd H' p (.dK kvs) = H2 at c cp e1 e2 ⊢
     obtain ⟨dx2, fs2, hx2, ff2⟩ := c.fl
     refine ⟨_, rfl, rdF hx2 T.fl.cl.cl T.fl.nl ff2.hl ⟨_, rfl, d2.hl, _, rfl, ut.k (k := .inr ad) e1 Z0, ?_⟩⟩
     have sb : SameBut d2.hl H2 (upd H2 d2.hl (.dK (putK [] (.inr ad) (.ref p)))) := fun b o h hb => by rw [aA hb]; exact h
     have k1 : upd H2 d2.hl (.dK (putK [] (.inr ad) (.ref p))) d2.hl = some (.dK [(.inr ad, .ref p)]) := ao
     replace c := c.but sb e1 c.f1
     replace cp := sb _ _ cp x1.symm
     replace e2 := sb _ _ e2 c.n1.symm
     clear sb hx2 ff2
     generalize upd H2 d2.hl (.dK (putK [] (.inr ad) (.ref p))) = H3 at c cp k1 e2 ⊢
     have hf3 := c.s _ _ hf
     have dg2 : gK H3 d.re (V.str ad) (some (.ref e')) := cB (r := []) (k := (.inr ad : Key)) (p := (.inr ad, .ref e')) rfl ▸ gK.k (k := .inr ad) (c.s _ _ r1)
     refine ⟨_, rfl, rdF hf3 T.fl.cl.cl T.fl.nr ff.re ⟨_, rfl, d.re, _, rfl, dg2, e', [], rfl, .inl (c.s _ _ r2), fun p2 hp2 => ?_⟩⟩
     have sn : az H3 (upd H3 p2 (.dK [])) := az.new hp2
     have cp2 : upd H3 p2 (.dK []) p2 = some (.dK []) := ao
     replace c := c.go sn
     have y1 : d2.re ≠ p2 := ak e2 hp2
     replace cp := sn _ _ cp
     replace k1 := sn _ _ k1
     replace e2 := sn _ _ e2
     clear sn
     generalize upd H3 p2 (.dK []) = H4 at c cp cp2 k1 e2 ⊢
     obtain ⟨dx2, fs2, hx2, ff2⟩ := c.fl
     refine ⟨_, rfl, rdF hx2 T.fl.cl.cl T.fl.nr ff2.re ⟨_, rfl, d2.re, _, rfl, ut.k (k := .inr ad) e2 Z0, ?_⟩⟩
     have sb : SameBut d2.re H4 (upd H4 d2.re (.dK (putK [] (.inr ad) (.ref p2)))) := fun b o h hb => by rw [aA hb]; exact h
     have k2 : upd H4 d2.re (.dK (putK [] (.inr ad) (.ref p2))) d2.re = some (.dK [(.inr ad, .ref p2)]) := ao
     exact ⟨_, rfl, c.but sb e2 c.f2, .inr ⟨rfl, p, p2, sb _ _ k1 c.n1, sb _ _ cp x2.symm, k2, sb _ _ cp2 y1.symm⟩⟩
    ·cases hx
   ·obtain ⟨v2, rfl, c, h⟩ := hv
    rcases h with ⟨h, _⟩ | ⟨_, p, p2, k1, k2, k3, k4⟩
    ·cases h
    refine ⟨_, rfl, rdF (c.s _ _ hf) T.fl.cl.cl T.fl.ne ff.en ⟨d.en, [.str ad], rfl, .inl (SqL.of (c.s _ _ fu.en)), fun l hl => ?_⟩⟩
    obtain ⟨dx2, fs2, hx2, ff2⟩ := c.fl
    refine ⟨_, rfl, x, _, dx2, fs2, rfl, (by rw [aA (ak hx2 hl)]; exact hx2), T.fl.cl.cl, T.fl.ne, lt_of_lt_of_le ff2.ln Z0, ?_⟩
    have c2 := Cg (ys := [.str ad]) c hx2 ff2 hl
    have sb : SameBut x H' (upd (upd H' l (.lst [.str ad])) x (.ins (C 9) dx2 (aX "ended" (.ref l) fs2))) := sb2 hl
    have h3 : upd (upd H' l (.lst [.str ad])) x (.ins (C 9) dx2 (aX "ended" (.ref l) fs2)) l = some (.lst [.str ad]) := by rw [aA (ak hx2 hl).symm]; exact ao
    generalize upd (upd H' l (.lst [.str ad])) x (.ins (C 9) dx2 (aX "ended" (.ref l) fs2)) = H2 at c2 sb h3 ⊢
    exact ⟨_, rfl, q x _ H2 c2 ⟨c2.fl, h3, ⟨p, kvs, sb _ _ k1 (aF k1 hx2 Z6), sb _ _ k2 (aF k2 hx2 Z6), g3.same fun b xs h => c2.s _ _ h⟩, p2, sb _ _ k3 (aF k3 hx2 Z6), sb _ _ k4 (aF k4 hx2 Z6)⟩⟩
theorem qK (T : Tx K mg C) (F : Fun K "log" "Filling.log" fX f fd) : aG P w K mg base CX0 1 f fd gA (Bm C) := by
 refine F.oq uC fun _ _ _ _ H _ Q E hr h => ?_
 ·obtain ⟨f, d, xs, rfl, ⟨dx, fs, hf, ff⟩, hx, q⟩ := h
  refine ⟨_, QSs.h (aC (aM (cA cM Z3 T.t_list boot_list (aj (aW (pv 0) rfl) au)))), ?_⟩
  refine ⟨_, rfl, rdF hf T.fl.cl.cl T.fl.nv ff.ev ?_⟩
  exact ⟨d.ev, xs, rfl, .inl (SqL.of hx), q⟩
theorem ji (T : Tx K mg C) (F : Fun K "filled" "Filling.filled" dB f fd) : aG P w K mg base CX0 1 f fd cR (pG C) := by
 refine F.oq qu fun _ _ _ _ H _ Q E hr h => ?_
 ·obtain ⟨f, d, xs, rfl, ⟨dx, fs, hf, ff⟩, hx, q⟩ := h
  refine ⟨_, QSs.h (aC (aM (cA cM Z3 T.t_list boot_list (aj (aW (pv 0) rfl) au)))), ?_⟩
  refine ⟨_, rfl, rdF hf T.fl.cl.cl T.fl.ne ff.en ?_⟩
  exact ⟨d.en, xs, rfl, .inl (SqL.of hx), q⟩
theorem pH (T : Tx K mg C) (F : Fun K "names" "Filling.names" eG f fd) : aG P w K mg base CX0 1 f fd fJ (u6 C) := by
 refine F.oq qJ fun _ _ _ _ H _ Q E hr h => ?_
 ·obtain ⟨f, d, ad, ks, kvs, e, rfl, ⟨dx, fs, hf, ff⟩, h1, h2, h3, q⟩ := h
  refine ⟨_, QSs.h (aC (aM (cA (zG rfl) Z3 T.t_list boot_list (aj (Am PySem.F.plainAttrs_dict PySem.F.slot_dict_items PySem.F.type_dict_items Gq (dw (aR.u1 hr) (aW (pv 0) rfl) (pv 1) (fun _ _ => rfl))) au)))), ?_⟩
  have g1 : gK H d.hl (V.str ad) (some (.ref e)) := h2 ▸ gK.k (k := .inr ad) h1
  refine ⟨_, rfl, rdF hf T.fl.cl.cl T.fl.nl ff.hl ⟨_, rfl, d.hl, _, rfl, g1, .inr (.inr (.inl ⟨rfl, .inl ⟨_, h3⟩⟩)), e, kvs, rfl, rfl, .inl h3, fun r hr => ?_⟩⟩
  have sn := az.new hr (o := ItO r e)
  exact ⟨r, e, kvs, rfl, ao, .inl (sn _ _ h3), fun l as H1 hl hal s1 h1 hat => q l as H1 (sn.free hl) (sn.trans s1) hal h1 hat⟩
theorem nR (T : Tx K mg C) (F : Fun K "touched" "Filling.touched" cW f fd) : aG P w K mg base CX0 1 f fd dI (rE C) := by
 refine F.oq pZ fun _ _ _ _ H _ Q E hr h => ?_
 ·obtain ⟨f, d, z, e, kvs, rfl, ⟨dx, fs, hf, ff⟩, h1, h2, h3, q⟩ := h
  refine ⟨_, QSs.h (aC (aM (bf (vV rfl) Z3 T.sorted PyProof.Rows.boot_sorted (aj (dw (aR.u1 hr) (aW (pv 0) rfl) (pv 1) (fun _ _ => rfl)) au)))), ?_⟩
  have g1 : gK H d.re (V.str z) (some (.ref e)) := h2 ▸ gK.k (k := .inr z) h1
  refine ⟨_, rfl, rdF hf T.fl.cl.cl T.fl.nr ff.re ⟨_, rfl, d.re, _, rfl, g1, e, [], [], rfl, h3, rfl, Z0, fun l ys hp _ hl => ?_⟩⟩
  obtain rfl := hp.eq_nil
  exact q l _ hl (az.new hl) ao
theorem cJ (T : Tx K mg C) (F : Fun K "note" "Filling.note" eV f fd) : aG P w K mg base CX0 1 f fd bK (lW C) := by
 refine F.oq rW fun _ _ _ _ H _ Q E hr h => ?_
 ·obtain ⟨f, v, d, xs, rfl, ⟨dx, fs, hf, ff⟩, hx, hl, q⟩ := h
  refine ⟨_, QSs.h (aC (bh (eQ plainAttrs_list PySem.F.slot_list_append PySem.F.type_list_append bH (aW (pv 0) rfl) (aj (pv 1) au)))), ?_⟩
  refine ⟨_, rfl, rdF hf T.fl.cl.cl T.fl.nv ff.ev ?_⟩
  exact ⟨.inl ⟨rfl, _, SqL.of hx⟩, _, rfl, d.ev, xs, v, rfl, rfl, hx, lt_of_lt_of_le hl Z0, q⟩
theorem jC (T : Tx K mg C) (F : Fun K "touch" "Filling.touch" eE f fd) : aG P w K mg base CX0 1 f fd dm (qP C) := by
 refine F.oq qU fun _ _ _ _ H _ Q E hr h => ?_
 ·obtain ⟨f, d, ad, rfl, ⟨dx, fs, hf, ff⟩, hb, q⟩ := h
  refine ⟨_, QSs.h (aC (bz (PW.pt (mD (aK tX (bf bJ Z3 T.len boot_len (aj (aW (pv 0) rfl) au)) aB (aN _)) (kW (aK km (bA c7 (bA bC (aW (pv 0) rfl) (By vW aB)) aB) (pv 1) (aN _))))) (aC (QS.mk (lK (aR.u1 hr) (dw (aR.u1 hr) (aW (pv 0) rfl) (bA c7 (bA bC (aW (pv 0) rfl) (By vW aB)) aB) (fun _ _ => rfl)) (pv 1) oZ rfl))) aU)), ?_⟩
  rcases hb with hb | ⟨t, i, hb, ht⟩
  ·refine ⟨_, rfl, rdF hf T.fl.cl.cl T.fl.nb ff.bg ?_⟩
   refine ⟨d.bg, _, rfl, .inl (SqL.of hb), _, _, rfl, rfl, _, rfl, cj (decide_eq_false (by show ¬ (0 : Int) < 0; decide)) ?_⟩
   exact q H (az.refl H)
  ·refine ⟨_, rfl, rdF hf T.fl.cl.cl T.fl.nb ff.bg ?_⟩
   refine ⟨d.bg, _, rfl, .inl (SqL.of hb), _, _, rfl, rfl, _, rfl, dM (decide_eq_true (by show (0 : Int) < 1; decide)) ?_⟩
   refine ⟨_, rfl, rdF hf T.fl.cl.cl T.fl.nb ff.bg ?_⟩
   refine ⟨_, rfl, d.bg, _, _, V.ref t, rfl, rfl, SqL.of hb, rfl, t, _, _, V.str ad, rfl, rfl, SqT.of ht, aZ (j := 0) rfl, _, rfl, rfl, _, rfl, qH rfl ?_⟩
   exact q H (az.refl H)
theorem qd (T : Tx K mg C) (F : Fun K "bind" "Filling.bind" eX f fd) : aG P w K mg base CX0 2 f fd fU (yU C) := by
 obtain ⟨fac, dac, Aac, M_fnote⟩ := T.m_Filling_note
 have Gac : aG P w K mg base CX0 1 fac dac bK (lW C) := cJ T Aac.F
 refine F.oq sJ fun _ _ _ _ H _ Q E hr h => ?_
 ·obtain ⟨f, d, ad, nm, v, ks, kvs, e, xs, rfl, ⟨dx, fs, hf, ff⟩, h1, h2, h3, h4, hx, hl, hne, q1, q2⟩ := h
  have hr1 : aR 1 _ := hr
  refine ⟨_, QSs.h (aC (bz (aK km (pv 2) aL (aN _)) (aq (QS.mk (lK (aR.u1 hr) (dw (aR.u1 hr) (aW (pv 0) rfl) (pv 1) (fun _ _ => rfl)) (pv 2) (pv 3) rfl))
   (aC (bh (bx (pv 0) T.fl.cl.cl M_fnote Gac hr1 Aac.b .nil bG (aj (bD (aj aL (aj (pv 1) (aj (pv 2) (aj (pv 3) au))))) au))))) aU)), ?_⟩
  by_cases he : nm = ""
  ·exact ⟨_, rfl, rfl, _, rfl, qH (congrArg V.str he) (q1 he)⟩
  ·refine ⟨_, rfl, rfl, _, rfl, dM (by rw [decide_eq_false fun z => he (V.str.inj z)]; rfl) ?_⟩
   have g1 : gK H d.hl (V.str ad) (some (.ref e)) := h2 ▸ gK.k (k := .inr ad) h1
   have hfe : f ≠ e := aF hf h3 Z6
   have hve : d.ev ≠ e := aF hx h3 Z6
   refine ⟨_, rfl, _, rfl, rdF hf T.fl.cl.cl T.fl.nl ff.hl ⟨_, rfl, d.hl, _, rfl, g1, _, rfl, e, _, rfl, ut.k (k := .inr nm) h3 (lt_of_lt_of_le h4 Z0), ?_⟩⟩
   have hf1 : upd H e (.dK (putK kvs (.inr nm) v)) f = some (.ins (C 9) dx fs) := by rw [aA hfe]; exact hf
   have hx1 : upd H e (.dK (putK kvs (.inr nm) v)) d.ev = some (.lst xs) := by rw [aA hve]; exact hx
   have q2 := q2 he
   generalize upd H e (.dK (putK kvs (.inr nm) v)) = H1 at hf1 hx1 q2 ⊢
   refine ⟨_, rfl, f, dx, fs, rfl, hf1, ff.me _ Z4, _, rfl, _, rfl, _, rfl, by show 4 <= sizeLine; decide, fun t ht => ?_⟩
   have sn : az H1 (upd H1 t (.tup [.str "bind", .str ad, .str nm, v])) := az.new ht
   exact ⟨f, .ref t, d, xs, rfl, ⟨dx, fs, sn _ _ hf1, ff⟩, sn _ _ hx1, Z1, q2 _ (Mor.one (ys := [.str ad, .str nm, v]) (az.refl H1) hx1 ht (show ("bind" : Str) ≠ "row" by decide +kernel))⟩
theorem mY (T : Tx K mg C) (F : Fun K "read_step" "Filling.read_step" cF f fd) : aG P w K mg base CX0 4 f fd cX (o4 C) := by
 obtain ⟨fa4, da4, Aa4⟩ := T.aa4
 have Ga4 : aG P w K mg base CX0 3 fa4 da4 kO xZ := xg T Aa4.F
 obtain ⟨fas, das, Aas, M_ftouch⟩ := T.m_Filling_touch
 have Gas : aG P w K mg base CX0 1 fas das dm (qP C) := jC T Aas.F
 obtain ⟨fac, dac, Aac, M_fnote⟩ := T.m_Filling_note
 have Gac : aG P w K mg base CX0 1 fac dac bK (lW C) := cJ T Aac.F
 refine F.oq jj fun _ _ _ _ H _ Q E hr h => ?_
 ·obtain ⟨H0, f, d, ad, nm, bn, b, xs, rfl, st, s0, hx, hl, hb, q⟩ := h
  have hr1 : aR 1 _ := hr.mono Z0
  have hr3 : aR 3 _ := hr
  refine ⟨_, QSs.h (aq (bh (bx (pv 0) T.fl.cl.cl M_ftouch Gas hr1 Aas.b .nil bG (aj (pv 1) au)))
   (aq (bz (Gu (Dp (aR.u1 hr) (pv 2) (dw (aR.u1 hr) (aW (pv 0) rfl) (pv 1) (fun _ _ => rfl)))) bN aU)
   (aq (aO (i := 4) jj.nd rfl (Or.inl rfl) (dw (aR.u1 hr) (dw (aR.u1 hr) (aW (pv 0) rfl) (pv 1) (fun _ _ => rfl)) (pv 2) (fun _ _ => rfl)))
   (aq (bh (bx (pv 0) T.fl.cl.cl M_fnote Gac hr1 Aac.b .nil bG (aj (bD (aj aL (aj (pv 1) (aj (pv 2) (aj (pv 4) au))))) au)))
   (aC (aM (bj Aa4 Ga4 hr3 (aj (pv 0) (aj (pv 4) au))))))))), ?_⟩
  obtain ⟨dx, fs, hf, ff⟩ := id st.fl
  obtain ⟨ks, kvs, e, h1, h2, h3, h4⟩ := id st.held
  obtain ⟨v, hv, bv⟩ := h4 nm b hb
  refine ⟨_, rfl, f, dx, fs, rfl, s0 _ _ hf, ff.me _ Z4, _, rfl, f, d, ad, rfl, ⟨dx, fs, s0 _ _ hf, ff⟩, .inr (by obtain ⟨t, i, hb, ht⟩ := st.bg; exact ⟨t, i, s0 _ _ hb, s0 _ _ ht⟩), fun H1 s1 => ?_⟩
  have s01 := s0.trans s1
  have hf1 := s01 _ _ hf
  have g1 : gK H1 d.hl (V.str ad) (some (.ref e)) := h2 ▸ gK.k (k := .inr ad) (s01 _ _ h1)
  have g2 : gK H1 e (V.str nm) (some v) := hv ▸ gK.k (k := .inr nm) (s01 _ _ h3)
  refine ⟨_, rfl, _, rfl, rdF hf1 T.fl.cl.cl T.fl.nl ff.hl ⟨_, rfl, d.hl, _, rfl, g1, e, _, rfl, g2, _, rfl, cj rfl ?_⟩⟩
  refine ⟨_, rfl, rdF hf1 T.fl.cl.cl T.fl.nl ff.hl ⟨_, rfl, d.hl, _, rfl, g1, _, rfl, e, v, rfl, g2, ?_⟩⟩
  have hx1 := s1 _ _ hx
  refine ⟨_, rfl, f, dx, fs, rfl, hf1, ff.me _ Z4, _, rfl, _, rfl, _, rfl, by show 4 <= sizeLine; decide, fun t ht => ?_⟩
  have sn : az H1 (upd H1 t (.tup [.str "see", .str ad, .str nm, v])) := az.new ht
  refine ⟨f, .ref t, d, xs, rfl, ⟨dx, fs, sn _ _ hf1, ff⟩, sn _ _ hx1, Z1, ?_⟩
  have mo := Mor.one (ys := [.str ad, .str nm, v]) s1 hx ht (show ("see" : Str) ≠ "row" by decide +kernel)
  generalize upd (upd H1 t (.tup [.str "see", .str ad, .str nm, v])) d.ev (.lst (xs ++ [.ref t])) = H2 at mo ⊢
  have bv2 := bv.same (mo.same s0 st.ev)
  exact ⟨_, rfl, _, rfl, _, v, bvK b, rfl, bv2.kd, Es b, fun H3 s3 => q v H3 (bv2.same s3) (mo.go s3)⟩
theorem rD (T : Tx K mg C) (F : Fun K "path_end" "path_end" mG f fd) : aG P w K mg base CX0 5 f fd jK (uH C) := by
 obtain ⟨faa, daa, Aaa⟩ := T.aaa
 have Gaa : aG P w K mg base CX0 2 faa daa eU jJ := iw T Aaa.F
 obtain ⟨fbt, dbt, Abt, M_fread_step⟩ := T.m_Filling_read_step
 have Gbt : aG P w K mg base CX0 4 fbt dbt cX (o4 C) := mY T Abt.F
 refine F.oq eO fun _ _ _ _ H _ Q E hr h => ?_
 ·obtain ⟨H0, f, d, ad, nm, bn, b, xs, p, rfl, hp, st, s0, hx, hl, hb, q⟩ := h
  have hr2 : aR 2 _ := hr.mono Z0
  have hr4 : aR 4 _ := hr
  refine ⟨_, QSs.h (aq (aO (i := 3) eO.nd rfl (Or.inl rfl) (bD (aj aL (aj (pv 1) au))))
   (aq (aO (i := 4) eO.nd rfl (Or.inl rfl) (pv 1))
   (aq (aO (i := 5) eO.nd rfl (Or.inl rfl) aL)
   (aq (dj PassesOwn.never rfl (Ju (pv 2)) (aJ (i := 6) eO.nd rfl (Or.inl rfl))
   (aq (bz (aK km (bj Aaa Gaa hr2 (aj (pv 3) au)) aL (aN _)) bN aU)
   (aq (aO (i := 4) eO.nd rfl (Or.inl rfl) (bA c7 (pv 3) aB))
   (aq (aO (i := 5) eO.nd rfl (Or.inl rfl) (pv 6))
   (aC (aO (i := 3) eO.nd rfl (Or.inl rfl) (bx (pv 0) T.fl.cl.cl M_fread_step Gbt hr4 Abt.b .nil bG (aj (pv 4) (aj (pv 5) au)))))))))
   (aC (aM (bD (aj (pv 3) (aj (pv 4) (aj (pv 5) au)))))))))), ?_⟩
  obtain ⟨dx, fs, hf, ff⟩ := id st.fl
  refine ⟨_, rfl, by show 2 <= sizeLine; decide, fun t0 ht0 => ?_⟩
  have s1 : az H (upd H t0 (.tup [.str "part", .str ad])) := az.new ht0
  have h0 : upd H t0 (.tup [.str "part", .str ad]) t0 = some (.tup [.str "part", .str ad]) := ao
  generalize upd H t0 (.tup [.str "part", .str ad]) = H1 at s1 h0
  have s01 := s0.trans s1
  refine ⟨_, rfl, ?_⟩
  refine ⟨_, rfl, p, rfl, ⟨_, SqT.of (s01 _ _ hp)⟩, ?_⟩
  refine Hu (xs := [V.str nm]) (fun i σ H2 => (i = 0 /\ H2 = H1 /\ ∃ v6, σ = [some (.ref f), some (.str ad), some (.ref p), some (.ref t0), some (.str ad), some (.str ""), v6]) \/ (i = 1 /\ SqT K H2 p [V.str nm] /\ ∃ v v6, σ = [some (.ref f), some (.str ad), some (.ref p), some v, some (.str ad), some (.str nm), v6] /\ lR H2 ad nm b v /\ Mor d.ev 1 xs H H2)) (.inl ⟨rfl, rfl, none, rfl⟩) ?_ ?_ ?_
  ·rintro i σ H2 _ (⟨_, rfl, _⟩ | ⟨_, sq, _⟩)
   ·exact SqT.of (s01 _ _ hp)
   ·exact sq
  ·rintro i x σ H2 hx2 (⟨rfl, rfl, v6, rfl⟩ | ⟨rfl, _⟩)
   ·cases hx2
    have hk : Kd H2 (.ref t0) "part" := .inr ⟨t0, _, rfl, h0, Z4⟩
    refine ⟨_, rfl, _, "part", rfl, hk, fun H3 s3 => ⟨rfl, _, rfl, qH rfl ?_⟩⟩
    refine ⟨_, rfl, t0, _, _, V.str ad, rfl, rfl, SqT.of (s3 _ _ h0), aZ (j := 1) rfl, ?_⟩
    refine ⟨_, rfl, ?_⟩
    have s03 := s01.trans s3
    refine ⟨_, rfl, f, dx, fs, rfl, s03 _ _ hf, ff.me _ Z4, _, rfl, _, rfl, H0, f, d, ad, nm, bn, b, xs, rfl, st, s03, s3 _ _ (s1 _ _ hx), hl, hb, fun v H4 bv mo => .inr ⟨rfl, SqT.of (mo.same s03 st.ev _ _ hp), v, _, rfl, bv, mo.pre (s1.trans s3)⟩⟩
   ·cases hx2
  ·rintro σ H2 (⟨h, _⟩ | ⟨_, _, v, v6, rfl, bv, mo⟩)
   ·cases h
   ·refine ⟨_, rfl, _, rfl, _, rfl, by show 3 <= sizeLine; decide, fun t ht => ?_⟩
    have sn := az.new ht (o := .tup [v, .str ad, .str nm])
    exact q t v _ (bv.same sn) (mo.go sn) ao
theorem wz (T : Tx K mg C) (F : Fun K "term_end" "term_end" jN f fd) : aG P w K mg base CX0 6 f fd ik (BX C) := by
 obtain ⟨faj, daj, Aaj⟩ := T.aaj
 have Gaj : aG P w K mg base CX0 5 faj daj jK (uH C) := rD T Aaj.F
 obtain ⟨faa, daa, Aaa⟩ := T.aaa
 have Gaa : aG P w K mg base CX0 2 faa daa eU jJ := iw T Aaa.F
 obtain ⟨fak, dak, Aak⟩ := T.aak
 have Gak : aG P w K mg base CX0 5 fak dak iU An := Bj
 refine F.oq bV fun _ _ _ _ H _ Q E hr h => ?_
 ·obtain ⟨H0, f, d, ad, bn, x, t, xs, rfl, ta, ty, st, s0, hx, hl, q⟩ := h
  have hr2 : aR 2 _ := hr.mono Z0
  have hr5 : aR 5 _ := hr
  have hr8 : aR 5 _ := hr
  refine ⟨_, QSs.h (aq (aO (i := 3) bV.nd rfl (Or.inl rfl) (bA c7 (pv 2) aB))
   (aq (aO (i := 4) bV.nd rfl (Or.inl rfl) (bA c7 (pv 2) aB))
   (aq (bz (aK cN (pv 3) aL (aN _)) (aC (aM (bD (aj (pv 4) (aj aL (aj aL au)))))) aU)
   (aq (nW (bj Aaj Gaj hr5 (aj (pv 0) (aj (pv 1) (aj (pv 4) au)))) (dH (K := K) (n := 3) rfl rfl (aV (aJ (i := 5) bV.nd rfl (Or.inl rfl)) (aV (aJ (i := 6) bV.nd rfl (Or.inl rfl)) (aV (aJ (i := 7) bV.nd rfl (Or.inl rfl)) du)))))
   (aq (bz (aK cN (pv 3) aL (aN _)) (aC (aM (bD (aj (pv 5) (aj (pv 6) (aj (pv 7) au)))))) aU)
   (aq (bz (aK km (bj Aaa Gaa hr2 (aj (pv 5) au)) aL (aN _)) bN aU)
   (aC (aM (bD (aj (bj Aak Gak hr8 (aj (pv 0) (aj (pv 5) au))) (aj (pv 6) (aj (pv 7) au)))))))))))), ?_⟩
  obtain ⟨p, y, rfl, hp, ha⟩ := ta
  have hp1 := s0 _ _ hp
  refine ⟨_, rfl, p, _, _, V.str (kindOf t.th), rfl, rfl, SqT.of hp1, aZ (j := 1) rfl, ?_⟩
  refine ⟨_, rfl, p, _, _, y, rfl, rfl, SqT.of hp1, aZ (j := 2) rfl, ?_⟩
  rcases ty with ⟨n, e⟩ | ⟨nm, v, e, hb⟩
  ·rw [e] at ha q ⊢
   cases ha
   refine ⟨_, rfl, rfl, _, rfl, dM rfl ?_⟩
   exact ⟨_, rfl, by show 3 <= sizeLine; decide, fun c hc => q c _ _ _ (Mor.new hx hc) ao⟩
  ·rw [e] at ha q ⊢
   obtain ⟨pp, rfl, hpp⟩ := ha
   refine ⟨_, rfl, rfl, _, rfl, cj rfl ?_⟩
   refine ⟨_, rfl, _, rfl, _, rfl, H0, f, d, ad, nm, bn, .num v, xs, pp, rfl, hpp, st, s0, hx, hl, hb, fun c u H1 bu mo hc => ?_⟩
   cases bu
   refine ⟨c, _, rfl, SqT.of hc, rfl, _, _, rfl, _, _, rfl, _, _, rfl, rfl, ?_⟩
   refine ⟨_, rfl, rfl, _, rfl, dM rfl ?_⟩
   refine ⟨_, rfl, _, rfl, _, rfl, by show 3 <= sizeLine; decide, fun g hg => q g ad nm _ (mo.go (az.new hg)) ?_⟩
   rw [Ce hb]
   exact ao
theorem yg (T : Tx K mg C) (F : Fun K "come_to" "come_to" lY f fd) : aG P w K mg base CX0 7 f fd jA (BR C) := by
 obtain ⟨faf, daf, Aaf⟩ := T.aaf
 have Gaf : aG P w K mg base CX0 6 faf daf ik (BX C) := wz T Aaf.F
 obtain ⟨faa, daa, Aaa⟩ := T.aaa
 have Gaa : aG P w K mg base CX0 2 faa daa eU jJ := iw T Aaa.F
 refine F.oq bU fun _ _ _ _ H _ Q E hr h => ?_
 ·obtain ⟨H0, f, d, ad, bn, l, ts, xs, rfl, ht, hg, hy, st, s0, hx, hl, q⟩ := h
  have hr2 : aR 2 _ := hr.mono Z0
  have hr9 : aR 6 _ := hr
  refine ⟨_, QSs.h (aq (bz (aK cN (bf bJ Z3 T.len boot_len (aj (pv 2) au)) aB (aN _)) (aC (aM (bA c7 (bj Aaf Gaf hr9 (aj (pv 0) (aj (pv 1) (aj (bA bC (pv 2) aB) au)))) aB))) aU)
   (aq (aO (i := 3) bU.nd rfl (Or.inl rfl) aB)
   (aq (dj PassesOwn.never rfl (bO (pv 2)) (aJ (i := 4) bU.nd rfl (Or.inl rfl))
   (aq (nW (bj Aaf Gaf hr9 (aj (pv 0) (aj (pv 1) (aj (pv 4) au)))) (dH (K := K) (n := 3) rfl rfl (aV (aJ (i := 5) bU.nd rfl (Or.inl rfl)) (aV (aJ (i := 6) bU.nd rfl (Or.inl rfl)) (aV (aJ (i := 7) bU.nd rfl (Or.inl rfl)) du)))))
   (aq (bz (aK km (bj Aaa Gaa hr2 (aj (pv 5) au)) aL (aN _)) bN aU)
   (aC (QS.mk (EY (i := 3) bU.nd rfl (Or.inl rfl) (aP fM (bA c7 (pv 4) aB) (pv 5)) Fy))))))
   (aC (aM (pv 3)))))), ?_⟩
  obtain ⟨ys, hys, hyl, hyt⟩ := id ht
  have hl1 := s0 _ _ hys
  refine ⟨_, rfl, l, ys, rfl, .inl (SqL.of hl1), rfl, _, rfl, nG (fun he => ?_) (fun he => ?_)⟩
  ·have e1 : ys.length = 1 := by have := V.int.inj he; omega
   obtain ⟨y, ey⟩ : ∃ y, ys[0]? = some y := ⟨_, getElem?_eq_getElem Z1⟩
   obtain ⟨t, et, tm⟩ := hyt 0 y ey
   refine ⟨_, rfl, _, rfl, _, rfl, l, _, _, y, rfl, rfl, SqL.of hl1, aZ (j := 0) ey, H0, f, d, ad, bn, y, t, xs, rfl, tm, hy t (mem_of_getElem? et), st, s0, hx, Z1, fun p w n H1 mo hp => ?_⟩
   refine ⟨p, _, _, _, rfl, rfl, SqT.of hp, aZ (j := 0) rfl, ?_⟩
   have e2 := Cy (g := fun t => tv0 bn t.th) hg (hyl ▸ e1) et
   have q' := q H1 (mo.le Z0)
   unfold uV at q'
   rw [e2] at q'
   exact q'
  ·refine ⟨_, rfl, l, rfl, ⟨_, SqL.of hl1⟩, ?_⟩
   refine cY (xs := ys) (fun i σ H2 => ∃ v4 v5 v6 v7, σ = [some (.ref f), some (.str ad), some (.ref l), some (.int ((ts.take i).map fun t => t.sg * tv0 bn t.th).sum), v4, v5, v6, v7] /\ Mor d.ev i xs H H2) ⟨none, none, none, none, rfl, Mor.nil hx⟩ ?_ ?_ ?_
   ·rintro i σ H2 _ ⟨v4, v5, v6, v7, _, mo⟩
    exact SqL.of (mo.same s0 st.ev _ _ hys)
   ·rintro i y σ H2 ey ⟨v4, v5, v6, v7, rfl, mo⟩
    obtain ⟨t, et, tm⟩ := hyt i y ey
    obtain ⟨ms, hz, hml, _⟩ := mo.ex
    have s02 := mo.same s0 st.ev
    have hi : i < 6 := by have := (List.getElem?_eq_some_iff.mp et).1; have := hg.hi; omega
    have hzl : (xs ++ ms).length < 80006 := by rw [length_append]; omega
    have ht2 := mem_of_getElem? et
    refine ⟨_, rfl, _, rfl, _, rfl, H0, f, d, ad, bn, y, t, _, rfl, tm, hy t ht2, st, s02, hz, Z1, fun p w n H3 mo3 hp => ?_⟩
    refine ⟨p, _, rfl, SqT.of hp, rfl, _, _, rfl, _, _, rfl, _, _, rfl, rfl, ?_⟩
    refine ⟨_, rfl, _, "number", rfl, .inl ⟨_, rfl, rfl⟩, fun H4 s4 => ⟨rfl, _, rfl, qH rfl ?_⟩⟩
    obtain ⟨pp, yy, rfl, hpp, _⟩ := tm
    have hp4 := s4 _ _ (mo3.same s02 st.ev _ _ hpp)
    refine ⟨_, rfl, _, rfl, pp, _, _, _, rfl, rfl, SqT.of hp4, aZ (j := 0) rfl, _, rfl, _, _, rfl, rfl, pP (hg.ok t ht2).sg, _, _, rfl, rfl, ?_⟩
    exact ⟨some (.ref pp), some (.int (tv0 bn t.th)), some (.str w), some (.str n), by rw [jG (g := fun t => t.sg * tv0 bn t.th) et]; rfl, (mo.trans hz mo3).go s4⟩
   ·rintro σ H2 ⟨v4, v5, v6, v7, rfl, mo⟩
    have q' := q H2 (mo.le (by have := hg.hi; omega))
    rw [hyl, take_length]
    exact ⟨_, rfl, q'⟩
theorem xR (T : Tx K mg C) (F : Fun K "call_deed" "call_deed" jQ f fd) : aG P w K mg base CX0 8 f fd iU (yZ C) := by
 obtain ⟨fah, dah, Aah⟩ := T.aah
 have Gah : aG P w K mg base CX0 7 fah dah jA (BR C) := yg T Aah.F
 obtain ⟨fbd, dbd, Abd, M_place_of⟩ := T.m_Part_place_of
 have Gbd : aG P w K mg base CX0 4 fbd dbd fW (Cv C) := pL T Abd.F
 obtain ⟨fae, dae, Aae, M_hpart⟩ := T.m_House_part
 have Gae : aG P w K mg base CX0 3 fae dae dR (oA C) := jf T Aae.F
 obtain ⟨fac, dac, Aac, M_fnote⟩ := T.m_Filling_note
 have Gac : aG P w K mg base CX0 1 fac dac bK (lW C) := cJ T Aac.F
 refine F.oq jc fun _ _ _ _ H _ Q E hr h => ?_
 ·obtain ⟨H0, f, d, ad, nm, bn, t, ts, xs, rfl, hb, bv, st, s0, hx, hl, q⟩ := h
  have hr1 : aR 1 _ := hr.mono Z0
  have hr3 : aR 3 _ := hr.mono Z0
  have hr4 : aR 4 _ := hr.mono Z0
  have hr10 : aR 7 _ := hr
  refine ⟨_, QSs.h (aq (aO (i := 2) jc.nd rfl (Or.inl rfl) (bA c7 (pv 1) aB))
   (aq (aO (i := 3) jc.nd rfl (Or.inl rfl) (bA c7 (pv 1) aB))
   (aq (bh (bx (pv 0) T.fl.cl.cl M_fnote Gac hr1 Aac.b .nil bG (aj (bD (aj aL (aj (pv 2) (aj (pv 3) au)))) au)))
   (aq (aO (i := 4) jc.nd rfl (Or.inl rfl) (bx (aW (pv 0) rfl) T.hs.cl.cl M_hpart Gae hr3 Aae.b .nil bG (aj (pv 2) au)))
   (aq (aO (i := 5) jc.nd rfl (Or.inl rfl) (bj Aah Gah hr10 (aj (pv 0) (aj (pv 2) (aj (aW (bA bC (aW (pv 4) rfl) (bx (pv 4) T.pt.cl.cl M_place_of Gbd hr4 Abd.b .nil bG (aj (pv 3) au))) rfl) au)))))
   (aq (bh (bx (pv 0) T.fl.cl.cl M_fnote Gac hr1 Aac.b .nil bG (aj (bD (aj aL (aj (pv 5) au))) au)))
   (aC (aM (pv 5))))))))), ?_⟩
  obtain ⟨dx, fs, hf, ff⟩ := id st.fl
  obtain ⟨t', e, ht⟩ := bv
  cases e
  refine ⟨_, rfl, t, _, _, V.str ad, rfl, rfl, SqT.of ht, aZ (j := 1) rfl, ?_⟩
  refine ⟨_, rfl, t, _, _, V.str nm, rfl, rfl, SqT.of ht, aZ (j := 2) rfl, ?_⟩
  refine ⟨_, rfl, f, dx, fs, rfl, s0 _ _ hf, ff.me _ Z4, _, rfl, _, rfl, by show 3 <= sizeLine; decide, fun t1 ht1 => ?_⟩
  have sn : az H (upd H t1 (.tup [.str "call", .str ad, .str nm])) := az.new ht1
  refine ⟨f, .ref t1, d, xs, rfl, ⟨dx, fs, sn _ _ (s0 _ _ hf), ff⟩, sn _ _ hx, Z1, ?_⟩
  have mo := Mor.one (ys := [.str ad, .str nm]) (az.refl H) hx ht1 (show ("call" : Str) ≠ "row" by decide +kernel)
  generalize upd (upd H t1 (.tup [.str "call", .str ad, .str nm])) d.ev (.lst (xs ++ [.ref t1])) = H1 at mo ⊢
  have s01 := mo.same s0 st.ev
  obtain ⟨l, rs, hh, hok, dd⟩ := id st.ho
  obtain ⟨ty, j, r, ej, eso, enm, ets, hbf⟩ := dd nm ts hb
  obtain ⟨hdx, hfs, ea, a1, a2, a3, a4, _⟩ := hh.same s01
  refine ⟨_, rfl, rdF (s01 _ _ hf) T.fl.cl.cl T.fl.nh ff.h ⟨d.h, hdx, hfs, rfl, ea, a4, _, rfl, H0, d.h, l, _, ad, rfl, hh, s01, wX, fun i p a lr H2 s2 ep e2 pa => ?_⟩⟩
  obtain rfl := Ai ep
  have s02 := s01.trans s2
  have gr : je rs := (hok.ok _ (mem_singleton.mpr rfl)).rs
  have hz : ¬ nm = "" := fun z => by
   have h1 := (gr.at ej).nm Z1
   rw [enm, z] at h1
   exact absurd h1.lo Z4
  obtain ⟨dy, gs, eb, b1, b2, b3, b4, b5, zs, hzs, hzl, hzt⟩ := id pa
  have eb2 := s02 _ _ eb
  refine ⟨_, rfl, _, rfl, _, rfl, rdF eb2 T.pt.cl.cl T.pt.nr b2 ⟨_, rfl, a, dy, gs, rfl, eb2, b4, _, rfl, a, _, lr, rs, nm, rfl, pa.same s02, gr, fun H3 s3 => ?_⟩⟩
  rw [yW ej enm hz hbf]
  obtain ⟨c, lc, e3, dc, fc, hc, fl⟩ := hzt j r ej
  have s03 := s02.trans s3
  refine ⟨lr, _, _, V.ref c, rfl, rfl, SqL.of (s03 _ _ hzs), aZ e3, ?_⟩
  obtain ⟨g1, g2⟩ := fl.tm (.inr (.inl eso))
  rw [eso] at hc
  rw [ets] at g2
  refine rdF (s03 _ _ hc) (T.fam.c 1 Z0).cl (T.fam.nt 1 Z0) g1 ?_
  have mo3 := mo.go (s2.trans s3)
  obtain ⟨ms, hy, hml, _⟩ := mo3.ex
  refine ⟨H0, f, d, ad, bn, lc, ts, _, rfl, g2, ets ▸ (gr.at ej).ts, ty, st, s03, hy, by rw [length_append]; omega, fun H4 mo4 => ?_⟩
  have mo5 := mo3.trans hy mo4
  have s04 := mo5.same s0 st.ev
  obtain ⟨ns, hn, hnl, _⟩ := mo5.ex
  refine ⟨_, rfl, f, dx, fs, rfl, s04 _ _ hf, ff.me _ Z4, _, rfl, by show 2 <= sizeLine; decide, fun t6 ht6 => ?_⟩
  have sn6 : az H4 (upd H4 t6 (.tup [.str "back", .int (uV bn ts)])) := az.new ht6
  refine ⟨f, .ref t6, d, _, rfl, ⟨dx, fs, sn6 _ _ (s04 _ _ hf), ff⟩, sn6 _ _ hn, by rw [length_append]; omega, ?_⟩
  have mo6 := Mor.one (ys := [.int (uV bn ts)]) (az.refl H4) hn ht6 (show ("back" : Str) ≠ "row" by decide +kernel)
  exact ⟨_, rfl, q _ (mo5.trans hn mo6)⟩
theorem za (T : Tx K mg C) (F : Fun K "term_end" "term_end" jN f fd) : aG P w K mg base CX0 9 f fd ik (yo C) := by
 obtain ⟨faj, daj, Aaj⟩ := T.aaj
 have Gaj : aG P w K mg base CX0 5 faj daj jK (uH C) := rD T Aaj.F
 obtain ⟨faa, daa, Aaa⟩ := T.aaa
 have Gaa : aG P w K mg base CX0 2 faa daa eU jJ := iw T Aaa.F
 obtain ⟨fak, dak, Aak⟩ := T.aak
 have Gak : aG P w K mg base CX0 8 fak dak iU (yZ C) := xR T Aak.F
 refine F.oq bV fun _ _ _ _ H _ Q E hr h => ?_
 ·obtain ⟨H0, f, d, ad, bn, x, t, xs, rfl, ta, ty, st, s0, hx, hl, q⟩ := h
  have hr2 : aR 2 _ := hr.mono Z0
  have hr5 : aR 5 _ := hr.mono Z0
  have hr8 : aR 8 _ := hr
  refine ⟨_, QSs.h (aq (aO (i := 3) bV.nd rfl (Or.inl rfl) (bA c7 (pv 2) aB))
   (aq (aO (i := 4) bV.nd rfl (Or.inl rfl) (bA c7 (pv 2) aB))
   (aq (bz (aK cN (pv 3) aL (aN _)) (aC (aM (bD (aj (pv 4) (aj aL (aj aL au)))))) aU)
   (aq (nW (bj Aaj Gaj hr5 (aj (pv 0) (aj (pv 1) (aj (pv 4) au)))) (dH (K := K) (n := 3) rfl rfl (aV (aJ (i := 5) bV.nd rfl (Or.inl rfl)) (aV (aJ (i := 6) bV.nd rfl (Or.inl rfl)) (aV (aJ (i := 7) bV.nd rfl (Or.inl rfl)) du)))))
   (aq (bz (aK cN (pv 3) aL (aN _)) (aC (aM (bD (aj (pv 5) (aj (pv 6) (aj (pv 7) au)))))) aU)
   (aq (bz (aK km (bj Aaa Gaa hr2 (aj (pv 5) au)) aL (aN _)) bN aU)
   (aC (aM (bD (aj (bj Aak Gak hr8 (aj (pv 0) (aj (pv 5) au))) (aj (pv 6) (aj (pv 7) au)))))))))))), ?_⟩
  obtain ⟨p, y, rfl, hp, ha⟩ := ta
  have hp1 := s0 _ _ hp
  refine ⟨_, rfl, p, _, _, V.str (kindOf t.th), rfl, rfl, SqT.of hp1, aZ (j := 1) rfl, ?_⟩
  refine ⟨_, rfl, p, _, _, y, rfl, rfl, SqT.of hp1, aZ (j := 2) rfl, ?_⟩
  rcases ty with (⟨n, e⟩ | ⟨nm, v, e, hb⟩) | ⟨nm, ts, e, hb⟩
  ·rw [e] at ha q ⊢
   cases ha
   refine ⟨_, rfl, rfl, _, rfl, dM rfl ?_⟩
   exact ⟨_, rfl, by show 3 <= sizeLine; decide, fun c hc => q c _ _ _ (Mor.new hx hc) ao⟩
  ·rw [e] at ha q ⊢
   obtain ⟨pp, rfl, hpp⟩ := ha
   refine ⟨_, rfl, rfl, _, rfl, cj rfl ?_⟩
   refine ⟨_, rfl, _, rfl, _, rfl, H0, f, d, ad, nm, bn, .num v, xs, pp, rfl, hpp, st, s0, hx, Z1, hb, fun c u H1 bu mo hc => ?_⟩
   cases bu
   refine ⟨c, _, rfl, SqT.of hc, rfl, _, _, rfl, _, _, rfl, _, _, rfl, rfl, ?_⟩
   refine ⟨_, rfl, rfl, _, rfl, dM rfl ?_⟩
   refine ⟨_, rfl, _, rfl, _, rfl, by show 3 <= sizeLine; decide, fun g hg => q g ad nm _ ((mo.go (az.new hg)).le Z0) ?_⟩
   rw [Fi hb]
   exact ao
  ·rw [e] at ha q ⊢
   obtain ⟨pp, rfl, hpp⟩ := ha
   refine ⟨_, rfl, rfl, _, rfl, cj rfl ?_⟩
   refine ⟨_, rfl, _, rfl, _, rfl, H0, f, d, ad, nm, bn, .deed ts, xs, pp, rfl, hpp, st, s0, hx, Z1, hb, fun c u H1 bu mo hc => ?_⟩
   obtain ⟨t', rfl, ht'⟩ := id bu
   refine ⟨c, _, rfl, SqT.of hc, rfl, _, _, rfl, _, _, rfl, _, _, rfl, rfl, ?_⟩
   refine ⟨_, rfl, rfl, _, rfl, cj rfl ?_⟩
   refine ⟨_, rfl, _, _, rfl, bu.kd, fun H2 s2 => ⟨rfl, _, rfl, qH rfl ?_⟩⟩
   have mo2 := mo.go s2
   obtain ⟨ms, hz, hml, _⟩ := mo2.ex
   refine ⟨_, rfl, _, rfl, H0, f, d, ad, nm, bn, t', ts, _, rfl, hb, bu.same s2, st, mo2.same s0 st.ev, hz, by rw [length_append]; omega, fun H3 mo3 => ?_⟩
   refine ⟨_, rfl, _, rfl, by show 3 <= sizeLine; decide, fun g hg => q g ad nm _ ((mo2.trans hz mo3).go (az.new hg)) ?_⟩
   rw [Bw hb]
   exact ao
theorem zU (T : Tx K mg C) (F : Fun K "come_to" "come_to" lY f fd) : aG P w K mg base CX0 10 f fd jA (zq C) := by
 obtain ⟨faf, daf, Aaf⟩ := T.aaf
 have Gaf : aG P w K mg base CX0 9 faf daf ik (yo C) := za T Aaf.F
 obtain ⟨faa, daa, Aaa⟩ := T.aaa
 have Gaa : aG P w K mg base CX0 2 faa daa eU jJ := iw T Aaa.F
 refine F.oq bU fun _ _ _ _ H _ Q E hr h => ?_
 ·obtain ⟨H0, f, d, ad, bn, l, ts, xs, rfl, ht, hg, hy, st, s0, hx, hl, q⟩ := h
  have hr2 : aR 2 _ := hr.mono Z0
  have hr9 : aR 9 _ := hr
  refine ⟨_, QSs.h (aq (bz (aK cN (bf bJ Z3 T.len boot_len (aj (pv 2) au)) aB (aN _)) (aC (aM (bA c7 (bj Aaf Gaf hr9 (aj (pv 0) (aj (pv 1) (aj (bA bC (pv 2) aB) au)))) aB))) aU)
   (aq (aO (i := 3) bU.nd rfl (Or.inl rfl) aB)
   (aq (dj PassesOwn.never rfl (bO (pv 2)) (aJ (i := 4) bU.nd rfl (Or.inl rfl))
   (aq (nW (bj Aaf Gaf hr9 (aj (pv 0) (aj (pv 1) (aj (pv 4) au)))) (dH (K := K) (n := 3) rfl rfl (aV (aJ (i := 5) bU.nd rfl (Or.inl rfl)) (aV (aJ (i := 6) bU.nd rfl (Or.inl rfl)) (aV (aJ (i := 7) bU.nd rfl (Or.inl rfl)) du)))))
   (aq (bz (aK km (bj Aaa Gaa hr2 (aj (pv 5) au)) aL (aN _)) bN aU)
   (aC (QS.mk (EY (i := 3) bU.nd rfl (Or.inl rfl) (aP fM (bA c7 (pv 4) aB) (pv 5)) Fy))))))
   (aC (aM (pv 3)))))), ?_⟩
  obtain ⟨ys, hys, hyl, hyt⟩ := id ht
  have hl1 := s0 _ _ hys
  refine ⟨_, rfl, l, ys, rfl, .inl (SqL.of hl1), rfl, _, rfl, nG (fun he => ?_) (fun he => ?_)⟩
  ·have e1 : ys.length = 1 := by have := V.int.inj he; omega
   obtain ⟨y, ey⟩ : ∃ y, ys[0]? = some y := ⟨_, getElem?_eq_getElem Z1⟩
   obtain ⟨t, et, tm⟩ := hyt 0 y ey
   refine ⟨_, rfl, _, rfl, _, rfl, l, _, _, y, rfl, rfl, SqL.of hl1, aZ (j := 0) ey, H0, f, d, ad, bn, y, t, xs, rfl, tm, hy t (mem_of_getElem? et), st, s0, hx, Z1, fun p w n H1 mo hp => ?_⟩
   refine ⟨p, _, _, _, rfl, rfl, SqT.of hp, aZ (j := 0) rfl, ?_⟩
   have e2 := Cy (g := fun t => tv bn t.th) hg (hyl ▸ e1) et
   have q' := q H1 (mo.le Z0)
   unfold oV at q'
   rw [e2] at q'
   exact q'
  ·refine ⟨_, rfl, l, rfl, ⟨_, SqL.of hl1⟩, ?_⟩
   refine cY (xs := ys) (fun i σ H2 => ∃ v4 v5 v6 v7, σ = [some (.ref f), some (.str ad), some (.ref l), some (.int ((ts.take i).map fun t => t.sg * tv bn t.th).sum), v4, v5, v6, v7] /\ Mor d.ev (9 * i) xs H H2) ⟨none, none, none, none, rfl, Mor.nil hx⟩ ?_ ?_ ?_
   ·rintro i σ H2 _ ⟨v4, v5, v6, v7, _, mo⟩
    exact SqL.of (mo.same s0 st.ev _ _ hys)
   ·rintro i y σ H2 ey ⟨v4, v5, v6, v7, rfl, mo⟩
    obtain ⟨t, et, tm⟩ := hyt i y ey
    obtain ⟨ms, hz, hml, _⟩ := mo.ex
    have s02 := mo.same s0 st.ev
    have hi : i < 6 := by have := (List.getElem?_eq_some_iff.mp et).1; have := hg.hi; omega
    have hzl : (xs ++ ms).length < 50054 := by rw [length_append]; omega
    have ht2 := mem_of_getElem? et
    refine ⟨_, rfl, _, rfl, _, rfl, H0, f, d, ad, bn, y, t, _, rfl, tm, hy t ht2, st, s02, hz, Z1, fun p w n H3 mo3 hp => ?_⟩
    refine ⟨p, _, rfl, SqT.of hp, rfl, _, _, rfl, _, _, rfl, _, _, rfl, rfl, ?_⟩
    refine ⟨_, rfl, _, "number", rfl, .inl ⟨_, rfl, rfl⟩, fun H4 s4 => ⟨rfl, _, rfl, qH rfl ?_⟩⟩
    obtain ⟨pp, yy, rfl, hpp, _⟩ := tm
    have hp4 := s4 _ _ (mo3.same s02 st.ev _ _ hpp)
    refine ⟨_, rfl, _, rfl, pp, _, _, _, rfl, rfl, SqT.of hp4, aZ (j := 0) rfl, _, rfl, _, _, rfl, rfl, pP (hg.ok t ht2).sg, _, _, rfl, rfl, ?_⟩
    exact ⟨some (.ref pp), some (.int (tv bn t.th)), some (.str w), some (.str n), by rw [jG (g := fun t => t.sg * tv bn t.th) et]; rfl, (mo.trans hz mo3).go s4⟩
   ·rintro σ H2 ⟨v4, v5, v6, v7, rfl, mo⟩
    have q' := q H2 (mo.le (by have := hg.hi; omega))
    rw [hyl, take_length]
    exact ⟨_, rfl, q'⟩
theorem xO (T : Tx K mg C) (F : Fun K "row_value" "row_value" kh f fd) : aG P w K mg base CX0 12 f fd jW (Cd C) := by
 obtain ⟨fah, dah, Aah⟩ := T.aah
 have Gah : aG P w K mg base CX0 10 fah dah jA (zq C) := zU T Aah.F
 obtain ⟨fai, dai, Aai⟩ := T.aai
 have Gai : aG P w K mg base CX0 2 fai dai iV zP := qF T Aai.F
 refine F.oq yd fun _ _ _ _ H _ Q E hr h => ?_
 ·obtain ⟨H0, f, d, ad, bn, a, l, r, xs, rfl, ra, gr, ty, st, s0, hx, hl, q⟩ := h
  have hr2 : aR 2 _ := hr.mono Z0
  have hr10 : aR 10 _ := hr.mono Z0
  refine ⟨_, QSs.h (aq (bz (fY (bf jH Z3 T.inst boot_isinstance (aj (pv 2) (aj (Gz T.c_Deed) au)))) (aC (aM (bD (aj aL (aj (pv 1) (aj (aW (pv 2) rfl) (aj (bj Aai Gai hr2 (aj (aW (pv 2) rfl) au)) au))))))) aU)
   (aq (bz (fY (bf jH Z3 T.inst boot_isinstance (aj (pv 2) (aj (Gz T.c_Late) au)))) bN aU)
   (aq (bz (fY (bf jH Z3 T.inst boot_isinstance (aj (pv 2) (aj (Gz T.c_Draw) au)))) bN aU)
   (aq (bz (fY (bf jH Z3 T.inst boot_isinstance (aj (pv 2) (aj (Gz T.c_Take) au)))) bN aU)
   (aC (aM (bj Aah Gah hr10 (aj (pv 0) (aj (pv 1) (aj (aW (pv 2) rfl) au)))))))))), ?_⟩
  obtain ⟨dx, fs, ha, fl⟩ := id ra
  have ha1 := s0 _ _ ha
  rcases ty with ⟨e1, ty⟩ | ⟨e1, ty⟩
  ·rw [e1] at ha1
   have qv : Bf bn r = .deed r.ts := if_pos e1
   obtain ⟨g1, g2⟩ := fl.tm (.inr (.inl e1))
   refine ⟨_, rfl, _, _, _, _, rfl, (T.fam.c 1 Z0).ty ha1, T.fam.kit 1 1 Z0 Z0, _, rfl, JW ?_⟩
   refine ⟨_, rfl, _, rfl, rdF ha1 (T.fam.c 1 Z0).cl (T.fam.nn 1 Z0) (fl.nm Z1) ⟨_, rfl, rdF ha1 (T.fam.c 1 Z0).cl (T.fam.nt 1 Z0) g1 ⟨l, r.ts, rfl, g2.same s0, gr.ts, fun H1 s1 => ⟨by show 4 <= sizeLine; decide, fun t ht => ?_⟩⟩⟩⟩
   refine q _ _ ?_ (((Mor.nil hx).go (s1.trans (az.new ht))).le Z0)
   rw [qv]
   exact ⟨t, rfl, ao⟩
  ·have qv : Bf bn r = .num (oV bn r.ts) := if_neg Z1
   obtain ⟨g1, g2⟩ := fl.tm Z1
   have h6 : r.so <= 6 := by omega
   have kf : ∀ j, j <= 4 -> j ≠ 0 -> Ds r.so j = false := fun j h1 h2 => by unfold Ds; rw [decide_eq_false Z1, decide_eq_false Z1]; rfl
   refine ⟨_, rfl, _, _, _, _, rfl, (T.fam.c r.so h6).ty ha1, (T.fam.kit r.so 1 h6 Z0).trans (congrArg some (kf 1 Z0 Z0)), _, rfl, iR ?_⟩
   refine ⟨_, rfl, _, _, _, _, rfl, (T.fam.c r.so h6).ty ha1, (T.fam.kit r.so 3 h6 Z0).trans (congrArg some (kf 3 Z0 Z0)), _, rfl, iR ?_⟩
   refine ⟨_, rfl, _, _, _, _, rfl, (T.fam.c r.so h6).ty ha1, (T.fam.kit r.so 2 h6 Z0).trans (congrArg some (kf 2 Z0 Z0)), _, rfl, iR ?_⟩
   refine ⟨_, rfl, _, _, _, _, rfl, (T.fam.c r.so h6).ty ha1, (T.fam.kit r.so 4 h6 Z0).trans (congrArg some (kf 4 Z0 Z0)), _, rfl, iR ?_⟩
   refine ⟨_, rfl, _, rfl, _, rfl, rdF ha1 (T.fam.c r.so h6).cl (T.fam.nt r.so h6) g1 ⟨H0, f, d, ad, bn, l, r.ts, xs, rfl, g2, gr.ts, ty, st, s0, hx, Z1, fun H1 mo => q _ H1 ?_ mo⟩⟩
   rw [qv]
   exact rfl
theorem nj (T : Tx K mg C) (F : Fun K "fill_part" "Filling.fill_part" cG f fd) : aG P w K mg base CX0 13 f fd cV (oX C) := by
 obtain ⟨fag, dag, Aag⟩ := T.aag
 have Gag : aG P w K mg base CX0 1 fag dag iZ um := qi T Aag.F
 obtain ⟨fbb, dbb, Abb⟩ := T.abb
 have Gbb : aG P w K mg base CX0 12 fbb dbb jW (Cd C) := xO T Abb.F
 obtain ⟨fae, dae, Aae, M_hpart⟩ := T.m_House_part
 have Gae : aG P w K mg base CX0 3 fae dae dR (oA C) := jf T Aae.F
 obtain ⟨fac, dac, Aac, M_fnote⟩ := T.m_Filling_note
 have Gac : aG P w K mg base CX0 1 fac dac bK (lW C) := cJ T Aac.F
 obtain ⟨fbj, dbj, Abj, M_fbind⟩ := T.m_Filling_bind
 have Gbj : aG P w K mg base CX0 2 fbj dbj fU (yU C) := qd T Abj.F
 refine F.oq fK fun _ _ _ _ H _ Q E hr h => ?_
 ·obtain ⟨B, f, d, ad, rs, l, rfl, na, hh, hok, ro, s0, ⟨dx, fs, hf, ff⟩, h1, h2, h3, h4, h5, b1, b2, b3, b4, b5, n1, n2, n3, n4, q⟩ := h
  have hr1 : aR 1 _ := hr.mono Z0
  have hr2 : aR 2 _ := hr.mono Z0
  have hr3 : aR 3 _ := hr.mono Z0
  have hr12 : aR 12 _ := hr
  refine ⟨_, QSs.h (aq (bh (bx (pv 0) T.fl.cl.cl M_fnote Gac hr1 Aac.b .nil bG (aj (bD (aj aL (aj (pv 1) au))) au)))
   (aq (QS.mk (lK (aR.u1 hr) (aW (pv 0) rfl) (pv 1) nT rfl))
   (aq (QS.mk (lK (aR.u1 hr) (aW (pv 0) rfl) (pv 1) (zg (aK cN (bj Aag Gag hr1 (aj (pv 1) au)) aL (aN _)) nT (Iw (FZ (bj Aag Gag hr1 (aj (pv 1) au)) oZ HY) rfl rfl Z2 Z0)) rfl))
   (aq (bh (eQ plainAttrs_list PySem.F.slot_list_append PySem.F.type_list_append bH (aW (pv 0) rfl) (aj (bD (aj (pv 1) (aj aB au))) au)))
   (aq (dj PassesOwn.never rfl (wJ (K := K) rfl Z3 T.enumerate (aj (aW (bx (aW (pv 0) rfl) T.hs.cl.cl M_hpart Gae hr3 Aae.b .nil bG (aj (pv 1) au)) rfl) au)) (dH (K := K) (n := 2) rfl rfl (aV (aJ (i := 2) fK.nd rfl (Or.inl rfl)) (aV (aJ (i := 3) fK.nd rfl (Or.inl rfl)) du)))
   (aq (nW (bD (aj (pv 1) (aj (pv 2) au))) (Ak (aW (pv 0) rfl) (By vW aB) set_list))
   (aq (bh (bx (pv 0) T.fl.cl.cl M_fnote Gac hr1 Aac.b .nil bG (aj (bD (aj aL (aj (pv 1) (aj (pv 2) au)))) au)))
   (aC (bh (bx (pv 0) T.fl.cl.cl M_fbind Gbj hr2 Abj.b .nil bG (aj (pv 1) (aj (tZ (P := P) (w := w) (K := K) (mg := mg) (base := base) rfl rfl rfl rfl rfl hr3 (pv 3)) (aj (bj Abb Gbb hr12 (aj (pv 0) (aj (pv 1) (aj (pv 3) au)))) au)))))))))
   (aq (bh (Am plainAttrs_list PySem.F.slot_list_pop PySem.F.type_list_pop Ku (aW (pv 0) rfl)))
   (aq (bh (eQ plainAttrs_list PySem.F.slot_list_append PySem.F.type_list_append bH (aW (pv 0) rfl) (aj (pv 1) au)))
   (aC (bh (bx (pv 0) T.fl.cl.cl M_fnote Gac hr1 Aac.b .nil bG (aj (bD (aj aL (aj (pv 1) au))) au))))))))))), ?_⟩
  refine ⟨_, rfl, f, dx, fs, rfl, hf, ff.me _ Z4, _, rfl, by show 2 <= sizeLine; decide, fun t0 ht0 => ?_⟩
  have sn : az H (upd H t0 (.tup [.str "begin", .str ad])) := az.new ht0
  refine ⟨f, .ref t0, d, [], rfl, ⟨dx, fs, sn _ _ hf, ff⟩, sn _ _ h5, Z0, ?_⟩
  have k0 : upd H t0 (.tup [.str "begin", .str ad]) t0 = some (.tup [.str "begin", .str ad]) := ao
  replace s0 := s0.trans sn
  replace hf := sn _ _ hf
  replace h1 := sn _ _ h1
  replace h2 := sn _ _ h2
  replace h3 := sn _ _ h3
  replace h4 := sn _ _ h4
  replace h5 := sn _ _ h5
  generalize upd H t0 (.tup [.str "begin", .str ad]) = H1 at k0 s0 hf h1 h2 h3 h4 h5 ⊢
  have sb : SameBut d.ev H1 (upd H1 d.ev (.lst ([] ++ [.ref t0]))) := fun b o h hb => by rw [aA hb]; exact h
  have g5 : upd H1 d.ev (.lst ([] ++ [.ref t0])) d.ev = some (.lst [.ref t0]) := ao
  replace k0 := sb _ _ k0 (aF k0 h5 Z6)
  replace hf := sb _ _ hf (aF hf h5 Z6)
  replace h1 := sb _ _ h1 (aF h1 h5 Z6)
  replace h2 := sb _ _ h2 (aF h2 h5 Z6)
  replace h3 := sb _ _ h3 n3
  replace h4 := sb _ _ h4 n4
  replace s0 : az B (upd H1 d.ev (.lst ([] ++ [.ref t0]))) := fun b o h => sb _ _ (s0 b o h) (ak h b5)
  clear h5 sb sn
  generalize upd H1 d.ev (.lst ([] ++ [.ref t0])) = H2 at k0 s0 hf h1 h2 h3 h4 g5 ⊢
  intro e he
  have se : az H2 (upd H2 e (.dK [])) := az.new he
  refine ⟨_, rfl, rdF (se _ _ hf) T.fl.cl.cl T.fl.nl ff.hl ⟨_, rfl, d.hl, _, rfl, ut.k (k := .inr ad) (se _ _ h1) Z0, ?_⟩⟩
  have ke : upd H2 e (.dK []) e = some (.dK []) := ao
  have e1 : d.hl ≠ e := ak h1 he
  have e2n : d.re ≠ e := ak h2 he
  have be : B e = none := s0.free he
  replace k0 := se _ _ k0
  replace s0 := s0.trans se
  replace hf := se _ _ hf
  replace h1 := se _ _ h1
  replace h2 := se _ _ h2
  replace h3 := se _ _ h3
  replace h4 := se _ _ h4
  replace g5 := se _ _ g5
  clear se he
  generalize upd H2 e (.dK []) = H3 at ke k0 s0 hf h1 h2 h3 h4 g5 ⊢
  have sb : SameBut d.hl H3 (upd H3 d.hl (.dK (putK [] (.inr ad) (.ref e)))) := fun b o h hb => by rw [aA hb]; exact h
  have g1 : upd H3 d.hl (.dK (putK [] (.inr ad) (.ref e))) d.hl = some (.dK [(.inr ad, .ref e)]) := ao
  replace ke := sb _ _ ke e1.symm
  replace k0 := sb _ _ k0 (aF k0 h1 Z6)
  replace hf := sb _ _ hf (aF hf h1 Z6)
  replace h2 := sb _ _ h2 n1.symm
  replace h3 := sb _ _ h3 (aF h3 h1 Z6)
  replace h4 := sb _ _ h4 (aF h4 h1 Z6)
  replace g5 := sb _ _ g5 (aF g5 h1 Z6)
  replace s0 : az B (upd H3 d.hl (.dK (putK [] (.inr ad) (.ref e)))) := fun b o h => sb _ _ (s0 b o h) (ak h b1)
  clear h1 sb
  generalize upd H3 d.hl (.dK (putK [] (.inr ad) (.ref e))) = H4 at ke k0 s0 hf h2 h3 h4 g5 g1 ⊢
  refine ⟨_, rfl, [ad], by rw [dF]; rfl, qT na, fun H5 s5 => ⟨rfl, _, rfl, dM (decide_eq_true (congrArg V.str Gy)) ?_⟩⟩
  intro e2 he2
  have se : az H5 (upd H5 e2 (.dK [])) := az.new he2
  have ke2 : upd H5 e2 (.dK []) e2 = some (.dK []) := ao
  have x1 : d.hl ≠ e2 := ak (s5 _ _ g1) he2
  have x2 : d.re ≠ e2 := ak (s5 _ _ h2) he2
  have x3 : e ≠ e2 := ak (s5 _ _ ke) he2
  have ss := s5.trans se
  replace ke := ss _ _ ke
  replace k0 := ss _ _ k0
  replace s0 := s0.trans ss
  replace hf := ss _ _ hf
  replace h2 := ss _ _ h2
  replace h3 := ss _ _ h3
  replace h4 := ss _ _ h4
  replace g5 := ss _ _ g5
  replace g1 := ss _ _ g1
  clear ss se he2 s5
  generalize upd H5 e2 (.dK []) = H6 at ke ke2 k0 s0 hf h2 h3 h4 g5 g1 ⊢
  refine ⟨_, rfl, rdF hf T.fl.cl.cl T.fl.nr ff.re ⟨_, rfl, d.re, _, rfl, ut.k (k := .inr ad) h2 Z0, ?_⟩⟩
  have sb : SameBut d.re H6 (upd H6 d.re (.dK (putK [] (.inr ad) (.ref e2)))) := fun b o h hb => by rw [aA hb]; exact h
  have g2 : upd H6 d.re (.dK (putK [] (.inr ad) (.ref e2))) d.re = some (.dK [(.inr ad, .ref e2)]) := ao
  replace ke := sb _ _ ke e2n.symm
  replace ke2 := sb _ _ ke2 x2.symm
  replace k0 := sb _ _ k0 (aF k0 h2 Z6)
  replace hf := sb _ _ hf (aF hf h2 Z6)
  replace g1 := sb _ _ g1 n1
  replace h3 := sb _ _ h3 (aF h3 h2 Z6)
  replace h4 := sb _ _ h4 (aF h4 h2 Z6)
  replace g5 := sb _ _ g5 (aF g5 h2 Z6)
  replace s0 : az B (upd H6 d.re (.dK (putK [] (.inr ad) (.ref e2)))) := fun b o h => sb _ _ (s0 b o h) (ak h b2)
  clear h2 sb
  generalize upd H6 d.re (.dK (putK [] (.inr ad) (.ref e2))) = H7 at ke ke2 k0 s0 hf h3 h4 g5 g1 g2 ⊢
  refine ⟨_, rfl, rdF hf T.fl.cl.cl T.fl.nb ff.bg ⟨.inl ⟨rfl, _, SqL.of h4⟩, _, rfl, by show 2 <= sizeLine; decide, fun t1 ht1 => ?_⟩⟩
  have sn : az H7 (upd H7 t1 (.tup [.str ad, .int 0])) := az.new ht1
  refine ⟨d.bg, [], _, rfl, rfl, sn _ _ h4, Z0, ?_⟩
  have k1 : upd H7 t1 (.tup [.str ad, .int 0]) t1 = some (.tup [.str ad, .int 0]) := ao
  replace ke := sn _ _ ke
  replace ke2 := sn _ _ ke2
  replace k0 := sn _ _ k0
  replace s0 := s0.trans sn
  replace hf := sn _ _ hf
  replace h3 := sn _ _ h3
  replace h4 := sn _ _ h4
  replace g5 := sn _ _ g5
  replace g1 := sn _ _ g1
  replace g2 := sn _ _ g2
  clear sn ht1
  generalize upd H7 t1 (.tup [.str ad, .int 0]) = H8 at ke ke2 k0 k1 s0 hf h3 h4 g5 g1 g2 ⊢
  have N : FNe B d e e2 := ⟨n1, e1, x1, e2n, x2, x3, n2, n3, n4, b4, be, b5⟩
  have w0 : FW C B (upd H8 d.bg (.lst ([] ++ [.ref t1]))) f d ad e e2 [] 0 0 := by
   have sb : SameBut d.bg H8 (upd H8 d.bg (.lst ([] ++ [.ref t1]))) := fun b o h hb => by rw [aA hb]; exact h
   have k0' := sb _ _ k0 (aF k0 h4 Z6)
   exact ⟨fun b o h => sb _ _ (s0 b o h) (ak h b4), ⟨dx, fs, sb _ _ hf (aF hf h4 Z6), ff⟩, sb _ _ g1 (aF g1 h4 Z6), ⟨[], sb _ _ ke (aF ke h4 Z6), trivial⟩, sb _ _ g2 (aF g2 h4 Z6), sb _ _ ke2 (aF ke2 h4 Z6), sb _ _ h3 n2, ⟨t1, 0, ao, sb _ _ k1 (aF k1 h4 Z6)⟩, [], t0, sb _ _ g5 n4.symm, k0', HB k0', le_refl _⟩
  clear ke ke2 k0 k1 s0 hf h3 h4 g5 g1 g2
  generalize upd H8 d.bg (.lst ([] ++ [.ref t1])) = H9 at w0 ⊢
  clear H8 H7 H6 H5 H4 H3 H2 H1
  obtain ⟨dx, fs, hf, ff⟩ := w0.fl
  obtain ⟨dh, fh, eh, a1, a2, a3, a4, pa⟩ := id hh
  refine ⟨_, rfl, rdF hf T.fl.cl.cl T.fl.nh ff.h ⟨d.h, dh, fh, rfl, w0.b _ _ eh, a4, _, rfl, B, d.h, l, _, ad, rfl, hh, w0.b, wX, fun i p a lr H1 s1 hp hd pt => ?_⟩⟩
  obtain rfl := Ai hp
  obtain ⟨dp, fp, ea, c1, c2, c3, c4, c5, hr0⟩ := id pt
  obtain ⟨xs, hxl0, hxl, hxt⟩ := id hr0
  have gp := (hok.at hp).rs
  have ln : rs.length <= 12 := gp.1
  replace hxl : xs.length = rs.length := hxl
  replace w0 := w0.go s1
  clear s1 hf dx ff
  refine rdF (w0.b _ _ ea) T.pt.cl.cl T.pt.nr c2 ⟨lr, rfl, ⟨xs, SqL.of (w0.b _ _ hxl0)⟩, ?_⟩
  refine ue (xs := xs) (fun i σ H' => ∃ v2 v3, σ = [some (.ref f), some (.str ad), v2, v3] /\ FW C B H' f d ad e e2 (bB (rs.take i)) i (56 * i)) ⟨none, none, rfl, w0⟩ (fun i σ H' hi hv => ?_) (fun i x p0 σ H' hx hv hp0 => ?_) (fun σ H' hv => ?_)
  ·obtain ⟨v2, v3, rfl, w⟩ := hv
   exact SqL.of (w.b _ _ hxl0)
  ·obtain ⟨v2, v3, rfl, w⟩ := hv
   have hi : i < rs.length := by rw [<- hxl]; exact (List.getElem?_eq_some_iff.mp hx).1
   have er := getElem?_eq_getElem hi
   obtain ⟨a, t, e2', ra⟩ := hxt i rs[i] er
   obtain rfl : x = .ref a := by rw [hx] at e2'; exact Option.some.inj e2'
   refine ⟨p0, _, rfl, SqT.of ao, rfl, _, _, rfl, _, _, rfl, rfl, ?_⟩
   replace w := w.go (az.new hp0 (o := .tup [.int (0 + (i : Int)), .ref a]))
   generalize upd H' p0 (.tup [.int (0 + (i : Int)), .ref a]) = H2 at w ⊢
   rw [zero_add]
   refine ⟨_, rfl, _, rfl, by show 2 <= sizeLine; decide, fun t2 ht2 => ?_⟩
   replace w := w.go (az.new ht2 (o := .tup [.str ad, .int (i : Int)]))
   have k2 : upd H2 t2 (.tup [.str ad, .int (i : Int)]) t2 = some (.tup [.str ad, .int (i : Int)]) := ao
   generalize upd H2 t2 (.tup [.str ad, .int (i : Int)]) = H3 at w k2 ⊢
   obtain ⟨dx, fs, hf, ff⟩ := w.fl
   obtain ⟨tb, ib, hb, htb⟩ := w.bg
   refine ⟨_, rfl, rdF hf T.fl.cl.cl T.fl.nb ff.bg ⟨_, rfl, d.bg, _, _, 0, rfl, rfl, hb, rfl, ?_⟩⟩
   replace w : FW C B (upd H3 d.bg (.lst (List.set [V.ref tb] 0 (V.ref t2)))) f d ad e e2 (bB (rs.take i)) i (56 * i) := w.begun N k2
   clear hb htb k2 hf ff
   generalize upd H3 d.bg (.lst (List.set [V.ref tb] 0 (V.ref t2))) = H4 at w ⊢
   obtain ⟨dx, fs, hf, ff⟩ := w.fl
   refine ⟨_, rfl, f, dx, fs, rfl, hf, ff.me _ Z4, _, rfl, _, rfl, by show 3 <= sizeLine; decide, fun t3 ht3 => ?_⟩
   replace w := w.go (az.new ht3 (o := .tup [.str "row", .str ad, .int (i : Int)]))
   have k3 : upd H4 t3 (.tup [.str "row", .str ad, .int (i : Int)]) t3 = some (.tup [.str "row", .str ad, .int (i : Int)]) := ao
   clear hf ff
   generalize upd H4 t3 (.tup [.str "row", .str ad, .int (i : Int)]) = H5 at w k3 ⊢
   obtain ⟨ms, t00, hv, _, _, ml⟩ := w.ev
   refine ⟨f, .ref t3, d, _, rfl, w.fl, hv, by rw [length_cons]; omega, ?_⟩
   replace w := w.row N hv k3
   clear k3 hv ml
   generalize upd H5 d.ev (.lst (.ref t00 :: ms ++ [.ref t3])) = H6 at w ⊢
   obtain ⟨dx, fs, hf, ff⟩ := w.fl
   have hev0 : B d.ev = none := b5
   refine ⟨_, rfl, f, dx, fs, rfl, hf, ff.me _ Z4, _, rfl, _, rfl, rdB T (ra.same w.b) (gp.at er) fun H7 s7 => ?_⟩
   replace w := w.go s7
   clear hf ff s7
   obtain ⟨ms, t00, hv, _, _, ml⟩ := w.ev
   refine ⟨_, rfl, _, rfl, _, rfl, ers H7 d.ev, f, d, ad, bB (rs.take i), a, t, rs[i], _, rfl, ra.same (zc w.b b5), gp.at er, ro.ty i _ er, w.st N hh hok (ro.dd (le_of_lt hi)), lZ, hv, by rw [length_cons]; omega, fun v H8 bv mo => ?_⟩
   replace w := w.evs N hv mo
   clear hv ml mo
   obtain ⟨kvs, he, tb⟩ := w.eh
   obtain ⟨ms, t00, hv, _, _, ml⟩ := w.ev
   have lk := tb.len
   have lb := yx (rs.take i)
   rw [length_take] at lb
   refine ⟨f, d, ad, rs[i].nm, v, _, kvs, e, _, rfl, w.fl, w.hl, cB rfl, he, Z1, hv, by rw [length_cons]; omega, N.h2.symm, fun hn => ?_, fun hn H9 mo => ?_⟩
   ·refine ⟨_, _, rfl, ?_⟩
    rw [jz er]
    unfold bR
    rw [if_pos hn]
    exact w.le Z1
   ·refine ⟨_, _, rfl, ?_⟩
    rw [jz er]
    unfold bR
    rw [if_neg hn]
    have hv' : upd H8 e (.dK (putK kvs (.inr rs[i].nm) v)) d.ev = some (.lst (.ref t00 :: ms)) := by rw [aA (aF hv he Z6)]; exact hv
    exact ((w.bind N he (ro.new er hn) bv).evs N hv' mo).le Z1
  ·obtain ⟨v2, v3, rfl, w⟩ := hv
   rw [hxl, take_length] at w
   obtain ⟨dx, fs, hf, ff⟩ := w.fl
   obtain ⟨tb, ib, hb, htb⟩ := w.bg
   refine ⟨_, rfl, rdF hf T.fl.cl.cl T.fl.nb ff.bg ⟨.inl ⟨rfl, _, SqL.of hb⟩, d.bg, _, _, rfl, rfl, hb, rfl, ?_⟩⟩
   obtain ⟨bs, _, hl, ⟨kvs, he, tbl⟩, re, er, en, _, ms, t00, hv, h0, evs, ml⟩ := w
   have sb : SameBut d.bg H' (upd H' d.bg (.lst (List.dropLast [V.ref tb]))) := fun b o h hb => by rw [aA hb]; exact h
   have st : ∀ b xs, H' b = some (.tup xs) -> upd H' d.bg (.lst (List.dropLast [V.ref tb])) b = some (.tup xs) := fun b xs h => sb _ _ h (aF h hb Z6)
   replace bs : az B (upd H' d.bg (.lst (List.dropLast [V.ref tb]))) := fun b o h => sb _ _ (bs b o h) (ak h b4)
   replace hf := sb _ _ hf (aF hf hb Z6)
   replace hl := sb _ _ hl (aF hl hb Z6)
   replace he := sb _ _ he (aF he hb Z6)
   replace tbl := tbl.same st
   replace re := sb _ _ re (aF re hb Z6)
   replace er := sb _ _ er (aF er hb Z6)
   replace en := sb _ _ en n2
   replace hv := sb _ _ hv n4.symm
   replace h0 := st _ _ h0
   replace evs := evs.same st
   clear st sb hb htb
   generalize upd H' d.bg (.lst (List.dropLast [V.ref tb])) = H2 at bs hf hl he tbl re er en hv h0 evs ⊢
   refine ⟨_, rfl, rdF hf T.fl.cl.cl T.fl.ne ff.en ⟨.inl ⟨rfl, _, SqL.of en⟩, _, rfl, d.en, [], _, rfl, rfl, en, Z0, ?_⟩⟩
   have sb : SameBut d.en H2 (upd H2 d.en (.lst ([] ++ [.str ad]))) := fun b o h hb => by rw [aA hb]; exact h
   have st : ∀ b xs, H2 b = some (.tup xs) -> upd H2 d.en (.lst ([] ++ [.str ad])) b = some (.tup xs) := fun b xs h => sb _ _ h (aF h en Z6)
   replace bs : az B (upd H2 d.en (.lst ([] ++ [.str ad]))) := fun b o h => sb _ _ (bs b o h) (ak h b3)
   replace hf := sb _ _ hf (aF hf en Z6)
   replace hl := sb _ _ hl (aF hl en Z6)
   replace he := sb _ _ he (aF he en Z6)
   replace tbl := tbl.same st
   replace re := sb _ _ re (aF re en Z6)
   replace er := sb _ _ er (aF er en Z6)
   replace hv := sb _ _ hv n3.symm
   replace h0 := st _ _ h0
   replace evs := evs.same st
   have en' : upd H2 d.en (.lst ([] ++ [.str ad])) d.en = some (.lst [.str ad]) := ao
   clear st sb en
   generalize upd H2 d.en (.lst ([] ++ [.str ad])) = H3 at bs hf hl he tbl re er en' hv h0 evs ⊢
   refine ⟨_, rfl, f, dx, fs, rfl, hf, ff.me _ Z4, _, rfl, by show 2 <= sizeLine; decide, fun t3 ht3 => ?_⟩
   have sn : az H3 (upd H3 t3 (.tup [.str "end", .str ad])) := az.new ht3
   have mo := Mor.one (ys := [.str ad]) (az.refl H3) hv ht3 (show ("end" : Str) ≠ "row" by decide +kernel)
   have k3 : upd (upd H3 t3 (.tup [.str "end", .str ad])) d.ev (.lst (.ref t00 :: ms ++ [.ref t3])) t3 = some (.tup [.str "end", .str ad]) := by
    rw [aA (aF ao (sn _ _ hv) Z6)]; exact ao
   refine ⟨f, .ref t3, d, _, rfl, ⟨dx, fs, sn _ _ hf, ff⟩, sn _ _ hv, by rw [length_cons]; omega, ?_⟩
   have ev3 : upd (upd H3 t3 (.tup [.str "end", .str ad])) d.ev (.lst (.ref t00 :: ms ++ [.ref t3])) d.ev = some (.lst (.ref t00 :: ms ++ [.ref t3])) := ao
   generalize upd (upd H3 t3 (.tup [.str "end", .str ad])) d.ev (.lst (.ref t00 :: ms ++ [.ref t3])) = H4 at mo k3 ev3 ⊢
   have st : ∀ b xs, H3 b = some (.tup xs) -> H4 b = some (.tup xs) := fun b xs h => mo.sb _ _ h (aF h hv Z6)
   refine q H4 _ (mo.same bs b5) ⟨⟨dx, fs, mo.sb _ _ hf (aF hf hv Z6), ff⟩, mo.sb _ _ en' n3, ⟨e, kvs, mo.sb _ _ hl (aF hl hv Z6), mo.sb _ _ he (aF he hv Z6), tbl.same st⟩, e2, mo.sb _ _ re (aF re hv Z6), mo.sb _ _ er (aF er hv Z6)⟩ ev3 ⟨ms, t00, t3, rfl, st _ _ h0, k3, ?_, Z1⟩
   exact (evs.same st).more fun v hv => by rw [mem_singleton.mp hv]; exact ⟨t3, "end", _, rfl, k3, Z4⟩
theorem mL (T : Tx K mg C) (F : Fun K "draw_step" "Filling.draw_step" cH f fd) : aG P w K mg base CX0 14 f fd cT (o7 C) := by
 obtain ⟨fa3, da3, Aa3⟩ := T.aa3
 have Ga3 : aG P w K mg base CX0 1 fa3 da3 kE vK := yH T Aa3.F
 obtain ⟨fbp, dbp, Abp, M_hhas⟩ := T.m_House_has
 have Gbp : aG P w K mg base CX0 1 fbp dbp jq (Gf C) := uf T Abp.F
 obtain ⟨fas, das, Aas, M_ftouch⟩ := T.m_Filling_touch
 have Gas : aG P w K mg base CX0 1 fas das dm (qP C) := jC T Aas.F
 obtain ⟨fac, dac, Aac, M_fnote⟩ := T.m_Filling_note
 have Gac : aG P w K mg base CX0 1 fac dac bK (lW C) := cJ T Aac.F
 obtain ⟨fbu, dbu, Abu, M_ffill_part⟩ := T.m_Filling_fill_part
 have Gbu : aG P w K mg base CX0 13 fbu dbu cV (oX C) := nj T Abu.F
 refine F.oq jk fun _ _ _ _ H _ Q E hr h => ?_
 ·obtain ⟨B, f, d, ad, rs, l, rfl, na, hh, hok, ro, s0, ⟨dx, fs, hf, ff⟩, h4, h5, b1, b2, b3, b4, b5, n1, n2, n3, n4, q⟩ := h
  have hr1 : aR 1 _ := hr.mono Z0
  have hr13 : aR 13 _ := hr
  refine ⟨_, QSs.h (aC (dj PassesOwn.never rfl (bO (bj Aa3 Ga3 hr1 (aj (pv 1) au))) (aJ (i := 2) jk.nd rfl (Or.inl rfl))
   (aq (bz (uv (fY (bx (aW (pv 0) rfl) T.hs.cl.cl M_hhas Gbp hr1 Abp.b .nil bG (aj (pv 2) au)))) bN aU)
   (aq (bh (bx (pv 0) T.fl.cl.cl M_ftouch Gas hr1 Aas.b .nil bG (aj (pv 2) au)))
   (aC (bz (Gu (Ka (aR.u1 hr) (pv 2) (aW (pv 0) rfl))) (aC (bh (bx (pv 0) T.fl.cl.cl M_fnote Gac hr1 Aac.b .nil bG (aj (bD (aj aL (aj (pv 2) au))) au)))) (aC (bh (bx (pv 0) T.fl.cl.cl M_ffill_part Gbu hr13 Abu.b .nil bG (aj (pv 2) au)))))))))), ?_⟩
  refine ⟨_, rfl, ad, rfl, na, fun p H1 hp s1 hl => ?_⟩
  have bp : B p = none := s0.free hp
  have sB : az B (upd B p (.lst [.str ad])) := az.new bp
  have sB1 : az (upd B p (.lst [.str ad])) H1 := fun b o e => by
   by_cases z : b = p
   ·subst z; rw [ao] at e; cases e; exact hl
   ·rw [aA z] at e; exact s1 _ _ (s0 _ _ e)
  have bpp : upd B p (.lst [.str ad]) p = some (.lst [.str ad]) := ao
  have ub : ∀ {b o}, H b = some o -> B b = none -> upd B p (.lst [.str ad]) b = none := fun e eb => by rw [aA (ak e hp)]; exact eb
  refine ⟨p, rfl, ⟨_, SqL.of hl⟩, ?_⟩
  refine cY (xs := [.str ad]) (fun i σ H' => (i = 0 /\ σ = [some (.ref f), some (.str ad), none] /\ H' = H1) \/ (i = 1 /\ H' p = some (.lst [.str ad]) /\ Q .non H')) (.inl ⟨rfl, rfl, rfl⟩) (fun i σ H' hi hv => ?_) (fun i x σ H' hx hv => ?_) (fun σ H' hv => ?_)
  ·rcases hv with ⟨_, _, rfl⟩ | ⟨_, h, _⟩
   ·exact SqL.of hl
   ·exact SqL.of h
  ·rcases hv with ⟨rfl, rfl, rfl⟩ | ⟨rfl, _, _⟩
   ·obtain rfl := Option.some.inj hx
    obtain ⟨dh, fh, eh, a1, a2, a3, a4, pa⟩ := id hh
    have hf1 := s1 _ _ hf
    refine ⟨_, rfl, rdF hf1 T.fl.cl.cl T.fl.nh ff.h ⟨d.h, dh, fh, rfl, s1 _ _ (s0 _ _ eh), a3, _, rfl, d.h, l, _, ad, rfl, (hh.same s0).same s1, hok, fun H2 s2 => ?_⟩⟩
    refine ⟨_, rfl, xx (decide_eq_true wX) ?_⟩
    have hf2 := s2 _ _ hf1
    have s3 := s1.trans s2
    refine ⟨_, rfl, f, dx, fs, rfl, hf2, ff.me _ Z4, _, rfl, f, d, ad, rfl, ⟨dx, fs, hf2, ff⟩, .inl (s3 _ _ h4), fun H3 s4 => ?_⟩
    replace s3 := s3.trans s4
    have hf3 := s4 _ _ hf2
    rcases q with ⟨em, q⟩ | ⟨bn, fu, q⟩
    ·refine ⟨_, rfl, _, rfl, rdF hf3 T.fl.cl.cl T.fl.nl ff.hl ⟨d.hl, none, rfl, gK.k (k := .inr ad) (s3 _ _ em.hl), ?_⟩⟩
     refine ⟨_, rfl, cj rfl ?_⟩
     refine ⟨_, rfl, f, dx, fs, rfl, hf3, ff.me _ Z4, _, rfl, upd B p (.lst [.str ad]), f, d, ad, rs, l, rfl, na, hh.same sB, hok, ro, (sB1.trans s2).trans s4, ⟨dx, fs, hf3, ff⟩, s3 _ _ em.hl, s3 _ _ em.re, s3 _ _ em.en, s3 _ _ h4, s3 _ _ h5, ub em.hl b1, ub em.re b2, ub em.en b3, ub h4 b4, ub h5 b5, n1, n2, n3, n4, fun H4 xs sf fu he lo => ?_⟩
     exact .inr ⟨rfl, sf _ _ bpp, q H4 xs (sB.trans sf) fu he lo⟩
    ·obtain ⟨e, kvs, g1, g2, g3⟩ := fu.hl
     refine ⟨_, rfl, _, rfl, rdF hf3 T.fl.cl.cl T.fl.nl ff.hl ⟨d.hl, some (.ref e), rfl, (cB (r := []) (k := (.inr ad : Key)) (p := (.inr ad, .ref e)) rfl ▸ gK.k (k := .inr ad) (s3 _ _ g1)), ?_⟩⟩
     refine ⟨_, rfl, dM rfl ?_⟩
     refine ⟨_, rfl, f, dx, fs, rfl, hf3, ff.me _ Z4, _, rfl, by show 2 <= sizeLine; decide, fun t ht => ?_⟩
     have sn : az H3 (upd H3 t (.tup [.str "there", .str ad])) := az.new ht
     have mo := Mor.one (ys := [.str ad]) (az.refl H3) (s3 _ _ h5) ht (show ("there" : Str) ≠ "row" by decide +kernel)
     refine ⟨f, .ref t, d, [], rfl, ⟨dx, fs, sn _ _ hf3, ff⟩, sn _ _ (s3 _ _ h5), Z0, ?_⟩
     have k3 : upd (upd H3 t (.tup [.str "there", .str ad])) d.ev (.lst ([] ++ [.ref t])) t = some (.tup [.str "there", .str ad]) := by
      rw [aA (aF ao (sn _ _ (s3 _ _ h5)) Z6)]; exact ao
     have k4 : upd (upd H3 t (.tup [.str "there", .str ad])) d.ev (.lst ([] ++ [.ref t])) d.ev = some (.lst [.ref t]) := ao
     generalize upd (upd H3 t (.tup [.str "there", .str ad])) d.ev (.lst ([] ++ [.ref t])) = H4 at mo k3 k4 ⊢
     have s6 : az (upd B p (.lst [.str ad])) H4 := mo.same ((sB1.trans s2).trans s4) (ub h5 b5)
     obtain ⟨e', r1, r2⟩ := fu.re
     have h53 := s3 _ _ h5
     have fin : FFu C H4 f d ad bn := by
      refine ⟨⟨dx, fs, mo.sb _ _ hf3 (aF hf3 h53 Z6), ff⟩, mo.sb _ _ (s3 _ _ fu.en) n3, ⟨e, kvs, mo.sb _ _ (s3 _ _ g1) (aF (s3 _ _ g1) h53 Z6), mo.sb _ _ (s3 _ _ g2) (aF (s3 _ _ g2) h53 Z6), g3.same fun b xs h => mo.sb _ _ (s3 _ _ h) (aF (s3 _ _ h) h53 Z6)⟩, e', mo.sb _ _ (s3 _ _ r1) (aF (s3 _ _ r1) h53 Z6), mo.sb _ _ (s3 _ _ r2) (aF (s3 _ _ r2) h53 Z6)⟩
     exact .inr ⟨rfl, s6 _ _ bpp, q t H4 (sB.trans s6) fin k4 k3⟩
   ·cases hx
  ·rcases hv with ⟨h, _, _⟩ | ⟨_, _, h⟩
   ·cases h
   ·exact h
theorem oJ (T : Tx K mg C) (F : Fun K "__init__" "Shelf.__init__" dG f fd) : aG P w K mg base CX0 3 f fd iH (Bh C) := by
 obtain ⟨fao, dao, Aao, M_Filling⟩ := T.i_Filling
 have Gao : aG P w K mg base CX0 1 fao dao dO (vY C) := ig T Aao.F
 refine F.oq uT fun _ _ _ _ H _ Q E hr h => ?_
 ·obtain ⟨x, dx, h0, rfl, hx, q⟩ := h
  have hr2 : aR 2 _ := hr
  refine ⟨_, QSs.h (aq (dD (pv 0) (pv 1))
   (aq (dD (pv 0) (rJ M_Filling Aao.b Gao hr2 T.c_Filling (aj (pv 1) au)))
   (aC (dD (pv 0) (b8 au))))), ?_⟩
  refine ⟨_, rfl, _, rfl, x, _, dx, _, rfl, hx, T.sh.cl.cl, T.sh.nh, Z0, ?_⟩
  have sb : SameBut x H (upd H x (.ins (C 10) dx (aX "house" (.ref h0) []))) := fun b o e hb => by rw [aA hb]; exact e
  have hx1 : upd H x (.ins (C 10) dx (aX "house" (.ref h0) [])) x = some (.ins (C 10) dx (aX "house" (.ref h0) [])) := ao
  generalize upd H x (.ins (C 10) dx (aX "house" (.ref h0) [])) = H1 at sb hx1 ⊢
  refine ⟨_, rfl, fun f dy hf hdy hne => ⟨f, dy, h0, rfl, ao, fun d H2 nw => ⟨rfl, ?_⟩⟩⟩
  have c := Bs hf hdy nw
  have em : FEm C H2 f d := ⟨nw.fl, nw.hl, nw.re, nw.en⟩
  clear nw
  have hx2 := c.s _ _ hx1
  refine ⟨_, rfl, x, _, dx, _, rfl, hx2, T.sh.cl.cl, T.sh.ns, lt_of_lt_of_le (gq zero_lt_one) Z0, ?_⟩
  have fr : ∀ {b}, H1 b = none -> H b = none := fun {b} e => by
   cases e2 : H b with
   | none => rfl
   | some o =>
    by_cases z : b = x
    ·subst z; rw [hx1] at e; cases e
    ·rw [sb _ _ e2 z] at e; cases e
  have xf : f ≠ x := (ak hx1 hf).symm
  have sb2 : SameBut x H2 (upd H2 x (.ins (C 10) dx (aX "stand" (.ref f) (aX "house" (.ref h0) [])))) := fun b o e hb => by rw [aA hb]; exact e
  have hx3 : upd H2 x (.ins (C 10) dx (aX "stand" (.ref f) (aX "house" (.ref h0) []))) x = some (.ins (C 10) dx (aX "stand" (.ref f) (aX "house" (.ref h0) []))) := ao
  have sb1 : SameBut x H (upd H2 x (.ins (C 10) dx (aX "stand" (.ref f) (aX "house" (.ref h0) [])))) := fun b o e hb => sb2 _ _ (c.s _ _ (sb _ _ e hb)) hb
  generalize upd H2 x (.ins (C 10) dx (aX "stand" (.ref f) (aX "house" (.ref h0) []))) = H3 at sb1 sb2 hx3 ⊢
  refine ⟨zero_le _, fun l hl => ?_⟩
  refine ⟨_, rfl, x, _, dx, _, rfl, (by rw [aA (ak hx3 hl)]; exact hx3), T.sh.cl.cl, T.sh.nd, lt_of_lt_of_le (gq (gq zero_lt_one)) Z0, ?_⟩
  have a := DK (o := .lst []) (o2 := .ins (C 10) dx (aX "drawn" (.ref l) (aX "stand" (.ref f) (aX "house" (.ref h0) [])))) sb1 hx3 hl
  generalize upd (upd H3 l (.lst [])) x (.ins (C 10) dx (aX "drawn" (.ref l) (aX "stand" (.ref f) (aX "house" (.ref h0) [])))) = H4 at a ⊢
  obtain ⟨⟨dy, gs, ef, ff⟩, e1, e2, e3⟩ := em
  have go : ∀ {b o}, H2 b = some o -> b ≠ x -> H4 b = some o := fun e hb => a.s _ _ (sb2 _ _ e hb) hb
  refine q f d l H4 c.h a.sb ⟨dx, _, a.hx, ?_⟩ ⟨⟨dy, gs, go ef xf, ff⟩, go e1 (aF e1 hx2 Z6), go e2 (aF e2 hx2 Z6), go e3 (aF e3 hx2 Z6)⟩ a.hl (fr hf) a.f (fr c.f3) (ak (sb2 _ _ e3 (aF e3 hx2 Z6)) hl).symm
  refine ⟨?_, ?_, lkP, fun m hm => ?_, ?_, lt_of_lt_of_le (gq (gq (gq zero_lt_one))) Z0⟩
  ·rw [lkN Z4, lkN Z4]; exact lkP
  ·rw [lkN Z4]; exact lkP
  ·obtain ⟨m1, m2, m3⟩ := GQ m hm
   rw [lkN m3, lkN m2, lkN m1]; rfl
  ·rw [lkN Z4, lkN Z4, lkN Z4]; rfl
theorem lD (T : Tx K mg C) (F : Fun K "filled" "Shelf.filled" fG f fd) : aG P w K mg base CX0 2 f fd dJ (pU C) := by
 obtain ⟨fal, dal, Aal, M_ffilled⟩ := T.m_Filling_filled
 have Gal : aG P w K mg base CX0 1 fal dal cR (pG C) := ji T Aal.F
 refine F.oq rT fun _ _ _ _ H _ Q E hr h => ?_
 ·obtain ⟨s, h, f, dr, d, xs, rfl, ⟨dx, fs, hs, sf⟩, ⟨dy, gs, hf, ff⟩, hx, q⟩ := h
  have hr1 : aR 1 _ := hr
  refine ⟨_, QSs.h (aC (aM (iY (aW (pv 0) rfl) T.fl.cl.cl M_ffilled Gal hr1 Aal.b .nil bG))), ?_⟩
  exact ⟨_, rfl, rdF hs T.sh.cl.cl T.sh.ns sf.st ⟨f, dy, gs, rfl, hf, ff.me _ Z4, f, d, xs, rfl, ⟨dy, gs, hf, ff⟩, hx, q⟩⟩
theorem gW (T : Tx K mg C) (F : Fun K "has_filled" "Shelf.has_filled" cO f fd) : aG P w K mg base CX0 3 f fd cC (jD C) := by
 obtain ⟨fal, dal, Aal, M_ffilled⟩ := T.m_Filling_filled
 have Gal : aG P w K mg base CX0 1 fal dal cR (pG C) := ji T Aal.F
 refine F.oq pW fun _ _ _ _ H _ Q E hr h => ?_
 ·obtain ⟨s, h, f, dr, d, ad, rfl, ⟨dx, fs, hs, sf⟩, ⟨dy, gs, hf, ff⟩, q⟩ := h
  have hr1 : aR 1 _ := hr.mono Z0
  refine ⟨_, QSs.h (aC (aM (iI qI (pv 1) (iY (aW (pv 0) rfl) T.fl.cl.cl M_ffilled Gal hr1 Aal.b .nil bG) Z3))), ?_⟩
  rcases q with ⟨hx, q⟩ | ⟨hx, q⟩
  ·refine ⟨_, rfl, _, rfl, rdF hs T.sh.cl.cl T.sh.ns sf.st ⟨f, dy, gs, rfl, hf, ff.me _ Z4, f, d, _, rfl, ⟨dy, gs, hf, ff⟩, hx, fun l hl => ?_⟩⟩
   exact ⟨l, [], rfl, .inl (SqL.of ao), rfl, rfl, q _ (az.new hl)⟩
  ·refine ⟨_, rfl, _, rfl, rdF hs T.sh.cl.cl T.sh.ns sf.st ⟨f, dy, gs, rfl, hf, ff.me _ Z4, f, d, _, rfl, ⟨dy, gs, hf, ff⟩, hx, fun l hl => ?_⟩⟩
   have e : inV (.str ad) [.str ad] = true := by show (eqV (.str ad) (.str ad) || false) = true; rw [show eqV (.str ad) (.str ad) = true from decide_eq_true rfl]; rfl
   refine ⟨l, [.str ad], rfl, .inl (SqL.of ao), rfl, rfl, ?_⟩
   show Q (.bl (inV (.str ad) [.str ad])) _
   rw [e]
   exact q _ (az.new hl)
theorem gk (T : Tx K mg C) (F : Fun K "check_filled" "Shelf.check_filled" bW f fd) : aG P w K mg base CX0 4 f fd bT (iu C) := by
 obtain ⟨fau, dau, Aau, M_shas_filled⟩ := T.m_Shelf_has_filled
 have Gau : aG P w K mg base CX0 3 fau dau cC (jD C) := gW T Aau.F
 refine F.oq nZ fun _ _ _ _ H _ Q E hr h => ?_
 ·obtain ⟨s, h, f, dr, d, ad, rfl, ⟨dx, fs, hs, sf⟩, ⟨dy, gs, hf, ff⟩, hx, q⟩ := h
  have hr3 : aR 3 _ := hr
  refine ⟨_, QSs.h (aC (bz (uv (fY (bx (pv 0) T.sh.cl.cl M_shas_filled Gau hr3 Aau.b .nil bG (aj (pv 1) au)))) bN aU)), ?_⟩
  exact ⟨_, rfl, s, dx, fs, rfl, hs, sf.me _ Z4, _, rfl, s, h, f, dr, d, ad, rfl, ⟨dx, fs, hs, sf⟩, ⟨dy, gs, hf, ff⟩, .inr ⟨hx, fun H1 s1 => ⟨_, rfl, xx rfl (q H1 s1)⟩⟩⟩
theorem lX (T : Tx K mg C) (F : Fun K "names" "Shelf.names" fP f fd) : aG P w K mg base CX0 5 f fd eN (rn C) := by
 obtain ⟨faq, daq, Aaq, M_scheck_filled⟩ := T.m_Shelf_check_filled
 have Gaq : aG P w K mg base CX0 4 faq daq bT (iu C) := gk T Aaq.F
 obtain ⟨fbl, dbl, Abl, M_fnames⟩ := T.m_Filling_names
 have Gbl : aG P w K mg base CX0 1 fbl dbl fJ (u6 C) := pH T Abl.F
 refine F.oq tG fun _ _ _ _ H _ Q E hr h => ?_
 ·obtain ⟨s, h, f, dr, d, ad, bn, rfl, ⟨dx, fs, hs, sf⟩, fu, q⟩ := h
  have hr1 : aR 1 _ := hr.mono Z0
  have hr4 : aR 4 _ := hr
  refine ⟨_, QSs.h (aq (bh (bx (pv 0) T.sh.cl.cl M_scheck_filled Gaq hr4 Aaq.b .nil bG (aj (pv 1) au)))
   (aC (aM (bx (aW (pv 0) rfl) T.fl.cl.cl M_fnames Gbl hr1 Abl.b .nil bG (aj (pv 1) au))))), ?_⟩
  refine ⟨_, rfl, s, dx, fs, rfl, hs, sf.me _ Z4, _, rfl, s, h, f, dr, d, ad, rfl, ⟨dx, fs, hs, sf⟩, fu.fl, fu.en, fun H1 s1 => ?_⟩
  obtain ⟨dy, gs, hf, ff⟩ := (fu.same s1).fl
  obtain ⟨e, kvs, g1, g2, g3⟩ := (fu.same s1).hl
  refine ⟨_, rfl, rdF (s1 _ _ hs) T.sh.cl.cl T.sh.ns sf.st ⟨f, dy, gs, rfl, hf, ff.me _ Z4, _, rfl, f, d, ad, _, kvs, e, rfl, ⟨dy, gs, hf, ff⟩, g1, cB rfl, g2, fun l as H2 hl s2 ln h2 ha => ?_⟩⟩
  refine q l as H2 (s1.free hl) (s1.trans s2) h2 ⟨ln.trans g3.len, fun i nm b e => ?_⟩
  obtain ⟨v, ev, rv⟩ := g3.at e
  obtain ⟨a, ea, ta⟩ := ha i _ _ ev
  exact ⟨a, v, ea, ta, rv.same s2⟩
theorem rm (T : Tx K mg C) (F : Fun K "means" "Shelf.means" fV f fd) : aG P w K mg base CX0 6 f fd gF (vd C) := by
 obtain ⟨fap, dap, Aap, M_snames⟩ := T.m_Shelf_names
 have Gap : aG P w K mg base CX0 5 fap dap eN (rn C) := lX T Aap.F
 refine F.oq jE fun _ _ _ _ H _ Q E hr h => ?_
 ·obtain ⟨s, h, f, dr, d, ad, nm, bn, b, rfl, ⟨dx, fs, hs, sf⟩, fu, hb, q⟩ := h
  have hr5 : aR 5 _ := hr
  refine ⟨_, QSs.h (aq (dj PassesOwn.never rfl (bO (bx (pv 0) T.sh.cl.cl M_snames Gap hr5 Aap.b .nil bG (aj (pv 1) au))) (dH (K := K) (n := 2) rfl rfl (aV (aJ (i := 3) jE.nd rfl (Or.inl rfl)) (aV (aJ (i := 4) jE.nd rfl (Or.inl rfl)) du)))
   (aC (bz (aK cN (pv 3) (pv 2) (aN _)) (aC (aM (pv 4))) aU)))
   bN), ?_⟩
  refine ⟨_, rfl, s, dx, fs, rfl, hs, sf.me _ Z4, _, rfl, s, h, f, dr, d, ad, bn, rfl, ⟨dx, fs, hs, sf⟩, fu, fun l as H1 hl s1 h1 pr => ?_⟩
  refine ⟨l, rfl, ⟨_, SqL.of h1⟩, ?_⟩
  refine cY (xs := as.map V.ref) (fun i σ H' => ∃ v3 v4, σ = [some (.ref s), some (.str ad), some (.str nm), v3, v4] /\ az H1 H' /\ ∀ (j : Nat) p, j < i -> bn[j]? = some p -> ¬ p.1 = nm) ⟨none, none, rfl, az.refl _, fun j p h => absurd h (not_lt_zero _)⟩ (fun i σ H' hi hv => ?_) (fun i x σ H' hx hv => ?_) (fun σ H' hv => ?_)
  ·obtain ⟨_, _, _, s2, _⟩ := hv
   exact SqL.of (s2 _ _ h1)
  ·obtain ⟨v3, v4, rfl, s2, hn⟩ := hv
   have hi : i < bn.length := by
    have := (List.getElem?_eq_some_iff.mp hx).1
    rw [length_map, pr.1] at this
    exact this
   obtain ⟨a, v, ea, ta, bv⟩ := pr.2 i bn[i].1 bn[i].2 (getElem?_eq_getElem hi)
   rw [getElem?_map, ea] at hx
   obtain rfl := Option.some.inj hx
   refine ⟨a, _, rfl, SqT.of (s2 _ _ ta), rfl, _, _, rfl, _, _, rfl, rfl, ?_⟩
   refine ⟨_, rfl, _, rfl, rfl, _, rfl, nG (fun he => ?_) (fun he => ?_)⟩
   ·have he := V.str.inj he
    have eb : bn.lookup nm = some bn[i].2 := Bg (i := i) (by rw [getElem?_eq_getElem hi, <- he]) hn
    rw [hb] at eb
    cases eb
    rw [he] at bv
    exact ⟨_, rfl, q v H' (s1.trans s2) (bv.same s2)⟩
   ·refine ⟨_, _, rfl, s2, fun j p hj e => ?_⟩
    rcases lt_or_ge j i with k | k
    ·exact hn j p k e
    ·obtain rfl : j = i := by omega
     rw [getElem?_eq_getElem hi] at e
     cases e
     exact fun z => he (congrArg V.str z)
  ·obtain ⟨v3, v4, rfl, s2, hn⟩ := hv
   have := vD (nm := nm) fun j p e => hn j p (by rw [length_map, pr.1]; exact (List.getElem?_eq_some_iff.mp e).1) e
   rw [hb] at this
   cases this
theorem pC (T : Tx K mg C) (F : Fun K "touched" "Shelf.touched" dU f fd) : aG P w K mg base CX0 5 f fd eY (rK C) := by
 obtain ⟨faq, daq, Aaq, M_scheck_filled⟩ := T.m_Shelf_check_filled
 have Gaq : aG P w K mg base CX0 4 faq daq bT (iu C) := gk T Aaq.F
 obtain ⟨fbo, dbo, Abo, M_ftouched⟩ := T.m_Filling_touched
 have Gbo : aG P w K mg base CX0 1 fbo dbo dI (rE C) := nR T Abo.F
 refine F.oq qO fun _ _ _ _ H _ Q E hr h => ?_
 ·obtain ⟨s, h, f, dr, d, ad, bn, rfl, ⟨dx, fs, hs, sf⟩, fu, q⟩ := h
  have hr1 : aR 1 _ := hr.mono Z0
  have hr4 : aR 4 _ := hr
  refine ⟨_, QSs.h (aq (bh (bx (pv 0) T.sh.cl.cl M_scheck_filled Gaq hr4 Aaq.b .nil bG (aj (pv 1) au)))
   (aC (aM (bx (aW (pv 0) rfl) T.fl.cl.cl M_ftouched Gbo hr1 Abo.b .nil bG (aj (pv 1) au))))), ?_⟩
  refine ⟨_, rfl, s, dx, fs, rfl, hs, sf.me _ Z4, _, rfl, s, h, f, dr, d, ad, rfl, ⟨dx, fs, hs, sf⟩, fu.fl, fu.en, fun H1 s1 => ?_⟩
  obtain ⟨dy, gs, hf, ff⟩ := (fu.same s1).fl
  obtain ⟨e, g1, g2⟩ := (fu.same s1).re
  exact ⟨_, rfl, rdF (s1 _ _ hs) T.sh.cl.cl T.sh.ns sf.st ⟨f, dy, gs, rfl, hf, ff.me _ Z4, _, rfl, f, d, ad, e, _, rfl, ⟨dy, gs, hf, ff⟩, g1, cB rfl, g2, fun l H2 hl s2 h2 => q l H2 (s1.free hl) (s1.trans s2) h2⟩⟩
theorem sE (T : Tx K mg C) (F : Fun K "draw" "Shelf.draw" gB f fd) : aG P w K mg base CX0 15 f fd iC (yh C) := by
 obtain ⟨fbn, dbn, Abn, M_fcopied⟩ := T.m_Filling_copied
 have Gbn : aG P w K mg base CX0 3 fbn dbn d9 (uz C) := oR T Abn.F
 obtain ⟨fbg, dbg, Abg, M_fdraw_step⟩ := T.m_Filling_draw_step
 have Gbg : aG P w K mg base CX0 14 fbg dbg cT (o7 C) := mL T Abg.F
 obtain ⟨fax, dax, Aax, M_flog⟩ := T.m_Filling_log
 have Gax : aG P w K mg base CX0 1 fax dax gA (Bm C) := qK T Aax.F
 refine F.oq o5 fun _ _ _ _ H _ Q E hr h => ?_
 ·obtain ⟨B, s, h, f, dr, d, ad, rs, l, xs, rfl, na, hh, hok, ro, s0, bs, bd, rfl, ⟨dx, fs, hs, sf⟩, hdr, ln, q⟩ := h
  have hr1 : aR 1 _ := hr.mono Z0
  have hr3 : aR 3 _ := hr.mono Z0
  have hr14 : aR 14 _ := hr
  refine ⟨_, QSs.h (aq (aO (i := 2) o5.nd rfl (Or.inl rfl) (iY (aW (pv 0) rfl) T.fl.cl.cl M_fcopied Gbn hr3 Abn.b .nil bG))
   (aq (bh (bx (pv 2) T.fl.cl.cl M_fdraw_step Gbg hr14 Abg.b .nil bG (aj (pv 1) au)))
   (aq (dD (pv 0) (pv 2))
   (aq (bh (eQ plainAttrs_list PySem.F.slot_list_append PySem.F.type_list_append bH (aW (pv 0) rfl) (aj (bD (aj (pv 1) (aj (iY (pv 2) T.fl.cl.cl M_flog Gax hr1 Aax.b .nil bG) au))) au)))
   (aC (aM (iY (pv 2) T.fl.cl.cl M_flog Gax hr1 Aax.b .nil bG))))))), ?_⟩
  have fa : bY C B f d := by
   rcases q with ⟨em, _⟩ | ⟨bn, fu, _⟩
   ·exact em.fl
   ·exact fu.fl
  obtain ⟨dy, gs, hf, ff⟩ := fa.same s0
  refine ⟨_, rfl, rdF hs T.sh.cl.cl T.sh.ns sf.st ⟨f, dy, gs, rfl, hf, ff.me _ Z4, f, d, rfl, ?_⟩⟩
  rcases q with ⟨em, q⟩ | ⟨bn, fu, q⟩
  ·refine .inl ⟨em.same s0, fun f2 d2 H1 c e2 => ?_⟩
   obtain ⟨dz, zs, hz, fz⟩ := c.fl
   refine ⟨_, rfl, f2, dz, zs, rfl, hz, fz.me _ Z4, _, rfl, H, f2, d2, ad, rs, l, rfl, na, (by rw [c.h]; exact hh.same s0), hok, ro, c.s, ⟨dz, zs, hz, fz⟩, c.bg, c.ev, c.f1, c.f2, c.f3, c.f4, c.f5, c.n1, c.n2, c.n3, c.n4, .inl ⟨e2, fun H2 ys s2 fu he lo => ?_⟩⟩
   replace q : ∀ lg H', Drn C H H' s d.h dr xs f2 d2 -> FFu C H' f2 d2 ad (bB rs) -> H lg = none -> H' lg = some (.lst ys) -> (∀ b zs, H2 b = some (.tup zs) -> H' b = some (.tup zs)) -> Q (.ref lg) H' := fun lg H' a b c d e => q f2 d2 lg ys H' a b c d (lo.same e)
   clear hz fz
   have nfs : f2 ≠ s := (ak hs c.f0).symm
   have nfd : f2 ≠ dr := (ak hdr c.f0).symm
   have nes : d2.en ≠ s := (ak hs c.f3).symm
   have ned : d2.en ≠ dr := (ak hdr c.f3).symm
   have nvd : d2.ev ≠ dr := (ak hdr c.f5).symm
   have hs2 := s2 _ _ hs
   have hd2 := s2 _ _ hdr
   refine ⟨_, rfl, _, rfl, s, _, dx, fs, rfl, hs2, T.sh.cl.cl, T.sh.ns, lt_of_lt_of_le sf.ln Z0, ?_⟩
   have sb : SameBut s H2 (upd H2 s (.ins (C 10) dx (aX "stand" (.ref f2) fs))) := fun b o h hb => by rw [aA hb]; exact h
   have hs3 : upd H2 s (.ins (C 10) dx (aX "stand" (.ref f2) fs)) s = some (.ins (C 10) dx (aX "stand" (.ref f2) fs)) := ao
   have sf3 : JV (aX "stand" (.ref f2) fs) d.h f2 dr := ⟨(lkN Z4).trans sf.h, lkP, (lkN Z4).trans sf.dr, fun m hm => (lkN (GQ m hm).2.1).trans (sf.me m hm), (lkN Z4).trans sf.nh, by rw [qx sf.st]; exact sf.ln⟩
   generalize upd H2 s (.ins (C 10) dx (aX "stand" (.ref f2) fs)) = H3 at sb hs3 ⊢
   have hd3 := sb _ _ hd2 (aF hd2 hs2 Z6)
   have fu3 := fu.but sb hs2 (.inr ⟨_, _, _, rfl⟩) nfs nes
   have he3 := sb _ _ he (aF he hs2 Z6)
   obtain ⟨dz, zs, hz, fz⟩ := fu3.fl
   refine ⟨_, rfl, rdF hs3 T.sh.cl.cl T.sh.nd sf3.dr ⟨.inl ⟨rfl, _, SqL.of hd3⟩, _, rfl, _, rfl, f2, dz, zs, rfl, hz, fz.me _ Z4, f2, d2, _, rfl, ⟨dz, zs, hz, fz⟩, he3, fun l1 hl1 => ⟨by show 2 <= sizeLine; decide, fun t1 ht1 => ?_⟩⟩⟩
   have s4 : az H3 (upd (upd H3 l1 (.lst ys)) t1 (.tup [.str ad, .ref l1])) := (az.new hl1).trans (az.new ht1)
   generalize upd (upd H3 l1 (.lst ys)) t1 (.tup [.str ad, .ref l1]) = H4 at s4 ⊢
   have hd4 := s4 _ _ hd3
   have fu4 := fu3.same s4
   refine ⟨dr, xs, _, rfl, rfl, hd4, lt_of_lt_of_le ln Z0, ?_⟩
   have sb5 : SameBut dr H4 (upd H4 dr (.lst (xs ++ [.ref t1]))) := fun b o h hb => by rw [aA hb]; exact h
   have hd5 : upd H4 dr (.lst (xs ++ [.ref t1])) dr = some (.lst (xs ++ [.ref t1])) := ao
   generalize upd H4 dr (.lst (xs ++ [.ref t1])) = H5 at sb5 hd5 ⊢
   have fu5 := fu4.but sb5 hd4 (.inl ⟨_, rfl⟩) nfd ned
   have he5 := sb5 _ _ (s4 _ _ he3) nvd
   have hs5 := sb5 _ _ (s4 _ _ hs3) (aF (s4 _ _ hs3) hd4 Z6)
   obtain ⟨dz, zs, hz, fz⟩ := fu5.fl
   refine ⟨_, rfl, f2, dz, zs, rfl, hz, fz.me _ Z4, f2, d2, _, rfl, ⟨dz, zs, hz, fz⟩, he5, fun lg hlg => ?_⟩
   have s6 := az.new hlg (o := .lst ys)
   have go : ∀ b o, H2 b = some o -> b ≠ s -> b ≠ dr -> upd H5 lg (.lst ys) b = some o := fun b o e h1 h2 => s6 _ _ (sb5 _ _ (s4 _ _ (sb _ _ e h1)) h2)
   refine q lg _ ⟨c.h, fun b o e h1 h2 => go _ _ (s2 _ _ e) h1 h2, ⟨dx, _, s6 _ _ hs5, sf3⟩, ⟨_, s6 _ _ hd5⟩, c.f0, c.f3, ned⟩ (fu5.same s6) ?_ ao fun b zs e => go _ _ e (aF e hs2 Z6) (aF e hd2 Z6)
   cases e : H lg with
   | none => rfl
   | some o =>
    exfalso
    by_cases z1 : lg = s
    ·rw [z1, hs5] at hlg; cases hlg
    ·by_cases z2 : lg = dr
     ·rw [z2, hd5] at hlg; cases hlg
     ·have := sb5 _ _ (s4 _ _ (sb _ _ (s2 _ _ e) z1)) z2
      rw [hlg] at this; cases this
  ·refine .inr ⟨ad, bn, fu.same s0, fun f2 d2 H1 c e2 => ?_⟩
   obtain ⟨dz, zs, hz, fz⟩ := c.fl
   refine ⟨_, rfl, f2, dz, zs, rfl, hz, fz.me _ Z4, _, rfl, H, f2, d2, ad, rs, l, rfl, na, (by rw [c.h]; exact hh.same s0), hok, ro, c.s, ⟨dz, zs, hz, fz⟩, c.bg, c.ev, c.f1, c.f2, c.f3, c.f4, c.f5, c.n1, c.n2, c.n3, c.n4, .inr ⟨bn, e2, fun t H2 s2 fu he ht => ?_⟩⟩
   generalize hy : [V.ref t] = ys at he
   replace q : ∀ lg H', Drn C H H' s d.h dr xs f2 d2 -> FFu C H' f2 d2 ad bn -> H lg = none -> H' lg = some (.lst ys) -> (∀ b zs, H2 b = some (.tup zs) -> H' b = some (.tup zs)) -> Q (.ref lg) H' := fun lg H' a b c d e => q f2 d2 lg t H' a b c (hy ▸ d) (e _ _ ht)
   clear hz fz
   have nfs : f2 ≠ s := (ak hs c.f0).symm
   have nfd : f2 ≠ dr := (ak hdr c.f0).symm
   have nes : d2.en ≠ s := (ak hs c.f3).symm
   have ned : d2.en ≠ dr := (ak hdr c.f3).symm
   have nvd : d2.ev ≠ dr := (ak hdr c.f5).symm
   have hs2 := s2 _ _ hs
   have hd2 := s2 _ _ hdr
   refine ⟨_, rfl, _, rfl, s, _, dx, fs, rfl, hs2, T.sh.cl.cl, T.sh.ns, lt_of_lt_of_le sf.ln Z0, ?_⟩
   have sb : SameBut s H2 (upd H2 s (.ins (C 10) dx (aX "stand" (.ref f2) fs))) := fun b o h hb => by rw [aA hb]; exact h
   have hs3 : upd H2 s (.ins (C 10) dx (aX "stand" (.ref f2) fs)) s = some (.ins (C 10) dx (aX "stand" (.ref f2) fs)) := ao
   have sf3 : JV (aX "stand" (.ref f2) fs) d.h f2 dr := ⟨(lkN Z4).trans sf.h, lkP, (lkN Z4).trans sf.dr, fun m hm => (lkN (GQ m hm).2.1).trans (sf.me m hm), (lkN Z4).trans sf.nh, by rw [qx sf.st]; exact sf.ln⟩
   generalize upd H2 s (.ins (C 10) dx (aX "stand" (.ref f2) fs)) = H3 at sb hs3 ⊢
   have hd3 := sb _ _ hd2 (aF hd2 hs2 Z6)
   have fu3 := fu.but sb hs2 (.inr ⟨_, _, _, rfl⟩) nfs nes
   have he3 := sb _ _ he (aF he hs2 Z6)
   obtain ⟨dz, zs, hz, fz⟩ := fu3.fl
   refine ⟨_, rfl, rdF hs3 T.sh.cl.cl T.sh.nd sf3.dr ⟨.inl ⟨rfl, _, SqL.of hd3⟩, _, rfl, _, rfl, f2, dz, zs, rfl, hz, fz.me _ Z4, f2, d2, _, rfl, ⟨dz, zs, hz, fz⟩, he3, fun l1 hl1 => ⟨by show 2 <= sizeLine; decide, fun t1 ht1 => ?_⟩⟩⟩
   have s4 : az H3 (upd (upd H3 l1 (.lst ys)) t1 (.tup [.str ad, .ref l1])) := (az.new hl1).trans (az.new ht1)
   generalize upd (upd H3 l1 (.lst ys)) t1 (.tup [.str ad, .ref l1]) = H4 at s4 ⊢
   have hd4 := s4 _ _ hd3
   have fu4 := fu3.same s4
   refine ⟨dr, xs, _, rfl, rfl, hd4, lt_of_lt_of_le ln Z0, ?_⟩
   have sb5 : SameBut dr H4 (upd H4 dr (.lst (xs ++ [.ref t1]))) := fun b o h hb => by rw [aA hb]; exact h
   have hd5 : upd H4 dr (.lst (xs ++ [.ref t1])) dr = some (.lst (xs ++ [.ref t1])) := ao
   generalize upd H4 dr (.lst (xs ++ [.ref t1])) = H5 at sb5 hd5 ⊢
   have fu5 := fu4.but sb5 hd4 (.inl ⟨_, rfl⟩) nfd ned
   have he5 := sb5 _ _ (s4 _ _ he3) nvd
   have hs5 := sb5 _ _ (s4 _ _ hs3) (aF (s4 _ _ hs3) hd4 Z6)
   obtain ⟨dz, zs, hz, fz⟩ := fu5.fl
   refine ⟨_, rfl, f2, dz, zs, rfl, hz, fz.me _ Z4, f2, d2, _, rfl, ⟨dz, zs, hz, fz⟩, he5, fun lg hlg => ?_⟩
   have s6 := az.new hlg (o := .lst ys)
   have go : ∀ b o, H2 b = some o -> b ≠ s -> b ≠ dr -> upd H5 lg (.lst ys) b = some o := fun b o e h1 h2 => s6 _ _ (sb5 _ _ (s4 _ _ (sb _ _ e h1)) h2)
   refine q lg _ ⟨c.h, fun b o e h1 h2 => go _ _ (s2 _ _ e) h1 h2, ⟨dx, _, s6 _ _ hs5, sf3⟩, ⟨_, s6 _ _ hd5⟩, c.f0, c.f3, ned⟩ (fu5.same s6) ?_ ao fun b zs e => go _ _ e (aF e hs2 Z6) (aF e hd2 Z6)
   cases e : H lg with
   | none => rfl
   | some o =>
    exfalso
    by_cases z1 : lg = s
    ·rw [z1, hs5] at hlg; cases hlg
    ·by_cases z2 : lg = dr
     ·rw [z2, hd5] at hlg; cases hlg
     ·have := sb5 _ _ (s4 _ _ (sb _ _ (s2 _ _ e) z1)) z2
      rw [hlg] at this; cases this
theorem wM (T : Tx K mg C) (F : Fun K "_law_names" "_law_names" lB f fd) : aG P w K mg base CX0 2 f fd sX vP := by
 obtain ⟨fab, dab, Aab⟩ := T.aab
 have Gab : aG P w K mg base CX0 1 fab dab pO tY := sZ Aab.F
 refine F.oq fQ fun _ _ _ _ H _ Q E hr h => ?_
 ·obtain ⟨c, rfl, q⟩ := h
  have hr1 : aR 1 _ := hr
  refine ⟨_, QSs.h (aq (aO (i := 2) fQ.nd rfl (Or.inr rfl) aL)
   (aq (aO (i := 3) fQ.nd rfl (Or.inl rfl) (aP cI aB (bj Aab Gab hr1 (aj (pv 0) (aj aB (aj aB au))))))
   (aq (aO (i := 4) fQ.nd rfl (Or.inl rfl) (bj Aab Gab hr1 (aj (pv 0) (aj aB (aj (pv 3) au)))))
   (aq (aO (i := 5) fQ.nd rfl (Or.inl rfl) (aP fL (aP cI (aP cI (pv 4) aB) (bj Aab Gab hr1 (aj (pv 0) (aj aB (aj (aP pD (pv 3) aB) au))))) (pv 3)))
   (aq (aO (i := 6) fQ.nd rfl (Or.inr rfl) (kJ (N := ["_law_j", "_law_cell_here"]) [none, some 0] rfl Z5 (gj Z3 T.range (aj aB au)) (fun cl C fp s H => (aJ (i := 0) (by decide +kernel : (["_law_j", "_law_cell_here"] : List Str).Nodup) rfl (Or.inl rfl))) (fun cl C fp s H => jL) (fun cl C fp s H => (bj Aab Gab hr1 (aj (pv 1) (aj (aP cI aB (pv 0)) (aj aB au)))))))
   (aq (aO (i := 7) fQ.nd rfl (Or.inl rfl) (DY (cD aL (cD aL (cD aL (cD aL (cD aL (cD aL (cD aL (cD aL (cD aL (cD aL Ej))))))))))))
   (aq (mX (N := ["_law_j", "_law_letters", "_law_base"]) [none, some 2, some 6] (i := 8) fQ.nd rfl (Or.inl rfl) rfl Z5 (gj Z3 T.range (aj aB au)) (fun cl C fp s H => (aJ (i := 0) (by decide +kernel : (["_law_j", "_law_letters", "_law_base"] : List Str).Nodup) rfl (Or.inl rfl))) (fun cl C fp s H => jL) (fun cl C fp s H => (Gk (K := K) rfl plainAttrs_str slot_str_join type_str_join (yX rfl) aL (aj (kJ (N := ["_law_k", "_law_letters"]) [none, some 1] rfl Z5 (GP (K := K) rfl (gP (yF (K := K) rfl) (pv 2) ju (jw (aP cI (pv 0) aB)))) (fun cl C fp s H => (aJ (i := 0) (by decide +kernel : (["_law_k", "_law_letters"] : List Str).Nodup) rfl (Or.inl rfl))) (fun cl C fp s H => jL) (fun cl C fp s H => (bA DX (pv 1) (pv 0)))) au))))
   (aq (aO (i := 9) fQ.nd rfl (Or.inl rfl) (bA bC (b8 (aj (pv 7) (aj (pv 8) (aj (b8 au) au)))) (bj Aab Gab hr1 (aj (pv 0) (aj aB (aj aB au))))))
   (aq (dj PassesOwn.never rfl (gj Z3 T.range (aj (pv 1) au)) (aJ (i := 10) fQ.nd rfl (Or.inl rfl))
   (aq (aO (i := 11) fQ.nd rfl (Or.inl rfl) (gP mK (pv 6) ju (jw (pv 3))))
   (aq (nW (aP fL (aP cI (bA bC (pv 6) (pv 4)) (pv 10)) aB) (Ak (pv 11) (pv 4) set_list))
   (aq (nW (aP fL (aP cI (bA bC (pv 6) (pv 5)) (aP kI (pv 10) aB)) aB) (Ak (pv 11) (pv 5) set_list))
   (aq (aO (i := 12) fQ.nd rfl (Or.inl rfl) (eQ plainAttrs_str slot_str_join type_str_join sY aL (aj (kJ (N := ["_law_k", "_law_letters"]) [none, some 2] rfl Z5 (bO (pv 11)) (fun cl C fp s H => (aJ (i := 0) (by decide +kernel : (["_law_k", "_law_letters"] : List Str).Nodup) rfl (Or.inl rfl))) (fun cl C fp s H => jL) (fun cl C fp s H => (bA DX (pv 1) (pv 0)))) au)))
   (aC (bz (aK qD (pv 12) (pv 9) Z3) (aC (bh (eQ plainAttrs_list PySem.F.slot_list_append PySem.F.type_list_append bH (pv 9) (aj (pv 12) au)))) aU)))))))
   (aC (aM (gP mK (pv 9) ju (jw (pv 1)))))))))))))), ?_⟩
  have z1 := jm c 0 (m := 7) Z0
  have z2 := jn c 0 (m := 7) Z0
  refine ⟨_, rfl, c, 0, 7, rfl, Z0, Z0, Z0, fun H1 s1 => ⟨_, _, rfl, rfl, ?_⟩⟩
  generalize pick c 0 7 = sz at z1 z2
  have o1 := jm c 1 (m := 2 + sz) Z1
  have o2 := jn c 1 (m := 2 + sz) Z1
  refine ⟨_, rfl, _, rfl, c, 1, 2 + sz, rfl, Z0, Z0, Z1, fun H2 s2 => ?_⟩
  generalize pick c 1 (2 + sz) = one at o1 o2
  have t1 := jm c 2 (m := 2 + sz - 1) Z1
  have t2 := jn c 2 (m := 2 + sz - 1) Z1
  refine ⟨_, rfl, _, _, rfl, rfl, _, rfl, _, rfl, _, _, rfl, rfl, c, 2, 2 + sz - 1, rfl, Z0, Z0, Z1, fun H3 s3 => ⟨_, _, rfl, rfl, _, rfl, _, _, rfl, rfl, by show (0 : Int) < 2 + sz; omega, ?_⟩⟩
  obtain ⟨w0, w1, wne⟩ := Ke (m := 2 + sz) Z1 o1 o2 t1 t2
  obtain ⟨two, htwo⟩ : ∃ two, two = (one + 1 + pick c 2 (2 + sz - 1)) % (2 + sz) := ⟨_, rfl⟩
  rw [<- htwo] at w0 w1 wne
  refine ⟨_, rfl, Z0, Z0, lH (fun i v H' => ∃ b : Int, v = V.int b /\ 0 <= b /\ b < 26) (fun i v H' H'' h _ => h) (by show 8 <= sizeLine; decide) (fun i H' Q' hi sm k' => ?_) (fun xs H4 s4 hl hx B hB => ?_)⟩
  ·have hi' : i < 8 := hi
   exact ⟨_, rfl, _, rfl, _, _, rfl, rfl, c, 3 + (0 + (i : Int)), 26, rfl, Z1, Z1, Z0, fun H5 s5 => k' _ H5 s5 ⟨_, rfl, jm c _ Z0, jn c _ Z0⟩⟩
  obtain ⟨bs, hbl, rfl, hbr⟩ := ints_of hx
  have hb8 : bs.length = 8 := by rw [length_map] at hl; exact hl
  have s03 : az H H4 := s1.trans (s2.trans (s3.trans s4))
  have hB0 : H B = none := s03.free hB
  have s04 : az H (upd H4 B (.lst (bs.map V.int))) := s03.put hB
  have hB4 : (upd H4 B (.lst (bs.map V.int))) B = some (.lst (bs.map V.int)) := ao
  generalize upd H4 B (.lst (bs.map V.int)) = H5 at s04 hB4
  refine ⟨by show 10 <= sizeLine; decide, fun O hO => ?_⟩
  have s05 : az H5 (upd H5 O (.lst [V.str "let", V.str "be", V.str "as", V.str "draw", V.str "late", V.str "take", V.str "from", V.str "need", V.str "deed", V.str "part"])) := az.new hO
  have hO6 : (upd H5 O (.lst [V.str "let", V.str "be", V.str "as", V.str "draw", V.str "late", V.str "take", V.str "from", V.str "need", V.str "deed", V.str "part"])) O = some (.lst (Fb.map V.str)) := ao
  generalize upd H5 O (.lst [V.str "let", V.str "be", V.str "as", V.str "draw", V.str "late", V.str "take", V.str "from", V.str "need", V.str "deed", V.str "part"]) = H6 at s05 hO6
  have hB6 := s05 _ _ hB4
  have hOB : O ≠ B := (ak hB4 hO).symm
  refine ⟨_, rfl, Z0, Z0, lH (fun i v H' => v = V.str (jO (bs.take (i + 1)))) (fun i v H' H'' h _ => h) (by show 8 <= sizeLine; decide) (fun i H' Q' hi sm k' => ?_) (fun xs H7 s7 hl7 hx7 PR hPR => ?_)⟩
  ·have hi' : i < 8 := hi
   have ec : gU (bs.map V.int) none (some (0 + (i : Int) + 1)) = (bs.take (i + 1)).map V.int := by
    rw [BZ Z1, show (0 + (i : Int) + 1).toNat = i + 1 from by omega]
   refine ⟨rfl, _, rfl, _, rfl, _, _, rfl, rfl, _, rfl, B, _, rfl, SqL.of (sm _ _ hB6), fun w hw => ⟨w, rfl, ⟨_, SqL.of ao⟩, ?_⟩⟩
   have h8 : (bs.take (i + 1)).length <= 8 := by rw [length_take]; omega
   refine u0 (ks := bs.take (i + 1)) h8 (hbr.take _) (SqL.of (ao.trans (by rw [ec]))) (fun b H' Q h0 h1 s k => ⟨_, rfl, _, rfl, letters, _, _, rfl, rfl, Z4, lat h0 h1, k⟩) (fun H8 s8 d hd => ?_)
   exact ⟨_, d, _, rfl, rfl, .inl (SqL.of ao), uc h8, k' _ _ (((az.new hw).trans s8).put hd) (congrArg V.str (Bu _))⟩
  obtain rfl : xs = (nJ bs).map V.str := (HX (fun i => V.str (jO (bs.take (i + 1)))) hl7 hx7).trans (by unfold nJ; rw [map_map]; rfl)
  have s07 : az H6 (upd H7 PR (.lst ((nJ bs).map V.str))) := s7.put hPR
  have hP8 : (upd H7 PR (.lst ((nJ bs).map V.str))) PR = some (.lst ((nJ bs).map V.str)) := ao
  have hPB : PR ≠ B := (ak (s7 _ _ hB6) hPR).symm
  have hP0 : H PR = none := (s04.trans (s05.trans s7)).free hPR
  generalize upd H7 PR (.lst ((nJ bs).map V.str)) = H8 at s07 hP8
  refine ⟨_, rfl, _, rfl, by show 0 <= sizeLine; decide, fun Em hEm => ⟨by show 3 <= sizeLine; decide, fun W hW => ?_⟩⟩
  have hEB : Em ≠ B := (ak (s07 _ _ hB6) hEm).symm
  have hE0 : H Em = none := (s04.trans (s05.trans s07)).free hEm
  have s8 : az H8 (upd H8 Em (.lst [])) := az.new hEm
  have hE9 : (upd H8 Em (.lst [])) Em = some (.lst ([].map V.str)) := ao
  generalize upd H8 Em (.lst []) = H9 at s8 hE9 hW
  have s9 : az H9 (upd H9 W (.lst [V.ref O, V.ref PR, V.ref Em])) := az.new hW
  have hW10 : (upd H9 W (.lst [V.ref O, V.ref PR, V.ref Em])) W = some (.lst [V.ref O, V.ref PR, V.ref Em]) := ao
  generalize upd H9 W (.lst [V.ref O, V.ref PR, V.ref Em]) = H10 at s9 hW10
  have p1 := jm c 11 (m := 3) Z0
  have p2 := jn c 11 (m := 3) Z0
  refine ⟨_, rfl, c, 11, 3, rfl, Z0, Z0, Z0, fun H11 s11 => ?_⟩
  have hcase : ∃ (nl : Addr) (zs : List Str), atI [V.ref O, V.ref PR, V.ref Em] (pick c 11 3) = some (.ref nl) /\ H11 nl = some (.lst (zs.map V.str)) /\ zs.Nodup /\ (∀ z ∈ zs, eZ z) /\ zs.length <= 10 /\ nl ≠ B /\ H nl = none := by
   generalize pick c 11 3 = k at p1 p2
   rcases (by omega : k = 0 \/ k = 1 \/ k = 2) with rfl | rfl | rfl
   ·exact ⟨O, Fb, aZ (j := 0) rfl, s11 _ _ (s9 _ _ (s8 _ _ (s07 _ _ hO6))), Kh, J2, Z0, hOB, s04.free hO⟩
   ·exact ⟨PR, nJ bs, aZ (j := 1) rfl, s11 _ _ (s9 _ _ (s8 _ _ hP8)), Hj hb8, G6 hbr hb8, by unfold nJ; rw [length_map, length_range]; decide, hPB, hP0⟩
   ·exact ⟨Em, [], aZ (j := 2) rfl, s11 _ _ (s9 _ _ hE9), List.nodup_nil, (fun z hz => by cases hz), Z0, hEB, hE0⟩
  obtain ⟨nl, zs0, hat, hn11, nd0, nm0, len0, hnB, hn0⟩ := hcase
  have hB11 := s11 _ _ (s9 _ _ (s8 _ _ (s07 _ _ hB6)))
  have s0 : az H H11 := s04.trans (s05.trans (s07.trans (s8.trans (s9.trans s11))))
  refine ⟨W, _, _, _, rfl, rfl, SqL.of (s11 _ _ hW10), hat, ?_⟩
  refine ⟨_, rfl, _, rfl, Z0, Z0, ?_⟩
  have hm8 : (2 + sz).toNat <= bs.length := by omega
  have hmi : ((2 + sz).toNat : Int) = 2 + sz := by omega
  refine n8 (fun i σ H2 => ∃ v9 v10 v11, ∃ zs : List Str, σ = [some (.int c), some (.int 26), some (.str "abcdefghijklmnopqrstuvwxyz"), some (.int (2 + sz)), some (.int one), some (.int two), some (.ref B), some (.ref O), some (.ref PR), some (.ref nl), v9, v10, v11] /\ az H H2 /\ H2 B = some (.lst (bs.map V.int)) /\ H2 nl = some (.lst (zs.map V.str)) /\ zs.Nodup /\ (∀ z ∈ zs, eZ z) /\ zs.length <= 10 + i /\ ∀ j : Nat, j < i -> jO (nF bs (2 + sz).toNat one.toNat two.toNat (0 + (j : Int))) ∈ zs)
   ⟨none, none, none, zs0, (by rw [htwo]; rfl), s0, hB11, hn11, nd0, nm0, len0, fun j hj => absurd hj (not_lt_zero _)⟩ ?_ ?_
  ·rintro i σ H2 hi ⟨v9, v10, v11, zs, rfl, sm, hB2, hn2, nd, hnm, hlen, hc⟩
   have hi12 : i < 26 := hi
   have ec : gU (bs.map V.int) none (some (2 + sz)) = (bs.take (2 + sz).toNat).map V.int := BZ Z1
   refine ⟨_, rfl, _, rfl, _, rfl, B, _, rfl, SqL.of hB2, fun w hw => ?_⟩
   have sw : az H2 (upd H2 w (.lst (gU (bs.map V.int) none (some (2 + sz))))) := az.new hw
   have hw3 : (upd H2 w (.lst (gU (bs.map V.int) none (some (2 + sz))))) w = some (.lst ((bs.take (2 + sz).toNat).map V.int)) := ao.trans (by rw [ec])
   have hwB : w ≠ B := (ak hB2 hw).symm
   have hwn : w ≠ nl := (ak hn2 hw).symm
   generalize upd H2 w (.lst (gU (bs.map V.int) none (some (2 + sz)))) = H3 at sw hw3
   have tl : (bs.take (2 + sz).toNat).length = (2 + sz).toNat := by rw [length_take, min_eq_left hm8]
   refine ⟨_, rfl, _, rfl, B, _, _, _, rfl, rfl, SqL.of (sw _ _ hB2), Er o1 Z1, _, rfl, _, _, rfl, rfl, _, _, rfl, rfl, by show (0 : Int) < 26; decide, _, rfl, _, rfl, w, _, _, one.toNat, rfl, rfl, hw3, Jl o1 (by rw [length_map, tl]; omega), ?_⟩
   have s3 : az H2 (upd H3 w (.lst (((bs.take (2 + sz).toNat).map V.int).set one.toNat (V.int ((bs.getD one.toNat 0 + (0 + (i : Int))) % 26))))) := sw.over hw
   have hw4 : (upd H3 w (.lst (((bs.take (2 + sz).toNat).map V.int).set one.toNat (V.int ((bs.getD one.toNat 0 + (0 + (i : Int))) % 26))))) w = some (.lst (((bs.take (2 + sz).toNat).set one.toNat ((bs.getD one.toNat 0 + (0 + (i : Int))) % 26)).map V.int)) := ao.trans (by rw [List.map_set])
   generalize upd H3 w (.lst (((bs.take (2 + sz).toNat).map V.int).set one.toNat (V.int ((bs.getD one.toNat 0 + (0 + (i : Int))) % 26)))) = H4 at s3 hw4
   refine ⟨_, rfl, _, rfl, B, _, _, _, rfl, rfl, SqL.of (s3 _ _ hB2), Er w0 Z1, _, rfl, _, _, rfl, rfl, ⟨Z0, Z0⟩, _, _, rfl, rfl, _, _, rfl, rfl, by show (0 : Int) < 26; decide, _, rfl, _, rfl, w, _, _, two.toNat, rfl, rfl, hw4, Jl w0 (by rw [length_map, length_set, tl]; omega), ?_⟩
   have s4 : az H2 (upd H4 w (.lst ((((bs.take (2 + sz).toNat).set one.toNat ((bs.getD one.toNat 0 + (0 + (i : Int))) % 26)).map V.int).set two.toNat (V.int ((bs.getD two.toNat 0 + (0 + (i : Int)) / 26) % 26))))) := s3.over hw
   have hw5 : (upd H4 w (.lst ((((bs.take (2 + sz).toNat).set one.toNat ((bs.getD one.toNat 0 + (0 + (i : Int))) % 26)).map V.int).set two.toNat (V.int ((bs.getD two.toNat 0 + (0 + (i : Int)) / 26) % 26))))) w = some (.lst ((nF bs (2 + sz).toNat one.toNat two.toNat (0 + (i : Int))).map V.int)) := ao.trans (by unfold nF; simp only [List.map_set])
   generalize upd H4 w (.lst ((((bs.take (2 + sz).toNat).set one.toNat ((bs.getD one.toNat 0 + (0 + (i : Int))) % 26)).map V.int).set two.toNat (V.int ((bs.getD two.toNat 0 + (0 + (i : Int)) / 26) % 26)))) = H5 at s4 hw5
   have cl : (nF bs (2 + sz).toNat one.toNat two.toNat (0 + (i : Int))).length = (2 + sz).toNat := Gw hm8
   have cr := vZ hbr (2 + sz).toNat one.toNat two.toNat (0 + (i : Int))
   generalize hks : nF bs (2 + sz).toNat one.toNat two.toNat (0 + (i : Int)) = ks at hw5 cl cr
   have k8 : ks.length <= 8 := by omega
   refine ⟨rfl, _, rfl, w, rfl, ⟨_, SqL.of hw5⟩, u0 (ks := ks) k8 cr (SqL.of hw5) (fun b H' Q h0 h1 s k => ⟨_, rfl, _, rfl, letters, _, _, rfl, rfl, Z4, lat h0 h1, k⟩) (fun H6 s6 d hd => ⟨_, d, _, rfl, rfl, .inl (SqL.of ao), uc k8, ?_⟩)⟩
   have s7 : az H2 (upd H6 d (.lst ((ks.map fun k => (⟨#[97 + k.toNat]⟩ : Str)).map V.str))) := (s4.trans s6).put hd
   generalize upd H6 d (.lst ((ks.map fun k => (⟨#[97 + k.toNat]⟩ : Str)).map V.str)) = H7 at s7
   have ew := Bu ks
   generalize Txt.join ("" : Str) (ks.map fun k => (⟨#[97 + k.toNat]⟩ : Str)) = nn at ew
   subst ew
   have hn7 := s7 _ _ hn2
   have hB7 := s7 _ _ hB2
   have nw : eZ (jO ks) := Ja Z1 k8 cr
   have hfl : (zs.map V.str).all mj = true := by rw [all_eq_true]; intro v hv; obtain ⟨z, _, rfl⟩ := mem_map.mp hv; rfl
   by_cases hin : inV (V.str (jO ks)) (zs.map V.str) = true
   ·refine ⟨_, rfl, _, rfl, nl, _, rfl, .inl (SqL.of hn7), rfl, hfl, _, rfl, cj (by rw [hin]; rfl) ?_⟩
    refine ⟨_, _, _, zs, rfl, sm.trans s7, hB7, hn7, nd, hnm, Z1, fun j hj => ?_⟩
    rcases lt_or_ge j i with k | k
    ·exact hc j k
    ·obtain rfl : j = i := by omega
     rw [hks]
     obtain ⟨z, hz, e⟩ := mem_map.mp (Kv hin)
     rw [<- V.str.inj e]
     exact hz
   ·have hin2 : inV (V.str (jO ks)) (zs.map V.str) = false := by simpa using hin
    have hnz : jO ks ∉ zs := fun z => hin (Gs (mem_map.mpr ⟨_, z, rfl⟩))
    refine ⟨_, rfl, _, rfl, nl, _, rfl, .inl (SqL.of hn7), rfl, hfl, _, rfl, dM (by rw [hin2]; rfl) ?_⟩
    refine ⟨_, rfl, .inl ⟨rfl, _, SqL.of hn7⟩, _, rfl, nl, _, _, rfl, rfl, hn7, lt_of_lt_of_le (show (zs.map V.str).length < 1000 by rw [length_map]; omega) sU, ?_⟩
    have s8 : az H (upd H7 nl (.lst (zs.map V.str ++ [V.str (jO ks)]))) := (sm.trans s7).over hn0
    refine ⟨_, _, _, zs ++ [jO ks], rfl, s8, by rw [aA hnB.symm]; exact hB7, ao.trans (by rw [map_append]; rfl), Hg nd hnz, fun z hz => ?_, by rw [length_append]; show zs.length + 1 <= _; omega, fun j hj => ?_⟩
    ·rcases mem_append.mp hz with hz | hz
     ·exact hnm z hz
     ·rw [mem_singleton.mp hz]; exact nw
    ·rcases lt_or_ge j i with k | k
     ·exact mem_append_left _ (hc j k)
     ·obtain rfl : j = i := by omega
      rw [hks]
      exact mem_append_right _ Z2
  ·rintro σ H2 ⟨v9, v10, v11, zs, rfl, sm, hB2, hn2, nd, hnm, hlen, hc⟩
   have h12 : 26 <= zs.length := Jq hbr hm8 (show one.toNat < (2 + sz).toNat by omega) (show two.toNat ≠ one.toNat by omega) (fun j hj => hc j hj)
   have ec : gU (zs.map V.str) none (some 26) = (zs.take 26).map V.str := (uG _ 26).trans (map_take ..).symm
   refine ⟨_, rfl, _, rfl, _, rfl, nl, _, rfl, SqL.of hn2, fun p hp => ?_⟩
   exact q p _ (zs.take 26) (sm.free hp) (sm.put hp) (by rw [length_take, min_eq_left h12]) (List.Pairwise.sublist (List.take_sublist 26 zs) nd) (fun z hz => hnm z (List.mem_of_mem_take hz)) (ao.trans (by rw [ec]))
theorem yc (T : Tx K mg C) (F : Fun K "_law_some" "_law_some" nu f fd) : aG P w K mg base CX0 2 f fd wQ zf := by
 obtain ⟨fab, dab, Aab⟩ := T.aab
 have Gab : aG P w K mg base CX0 1 fab dab pO tY := sZ Aab.F
 refine F.oq Ed fun _ _ _ _ H _ Q E hr h => ?_
 ·obtain ⟨kd, bn, so, c, k, rfl, ⟨kvs, hk, tb⟩, ln, k0, k1, q⟩ := h
  have hr1 : aR 1 _ := hr
  refine ⟨_, QSs.h (aq (Hw (mX (N := ["_law_name", "_law_sort", "_law_known"]) [none, some 1, some 0] (i := 4) Ed.nd rfl (Or.inl rfl) rfl Z5 (Hr (pv 0)) (fun cl C fp s H => (aJ (i := 0) (by decide +kernel : (["_law_name", "_law_sort", "_law_known"] : List Str).Nodup) rfl (Or.inl rfl))) (fun cl C fp s H => (wH (aK cN (bf (zT (K := K) rfl) Z3 T.inst boot_isinstance (aj (dw (aR.u1 hr) (pv 2) (pv 0) (fun _ _ => rfl)) (aj (jY (v := .ty "list") Z3 T.t_list boot_list rfl) au))) (iI cN (pv 1) aL (aN _)) (aN _)))) (fun cl C fp s H => (pv 0))))
   (aq (bz (aK (Gm (K := K) rfl hr.units) (pv 4) (b8 au) (aN _)) (aC (aM aL)) aU)
   (aC (aM (bA bC (pv 4) (bj Aab Gab hr1 (aj (pv 2) (aj (pv 3) (aj (bf bJ Z3 T.len boot_len (aj (pv 4) au)) au))))))))), ?_⟩
  have kl := tb.len
  refine ⟨kd, kvs, hk, _, rfl, kd, kvs, rfl, .inr ⟨hk, fun o => Ad (smP bn (decide (so = "deed"))) (le_trans (show kvs.length <= 12 by omega) Z0) ao (fun v H' Q' hv sm k => ?_) (fun v H' Q' hv sm k => ?_) (fun H7 s7 l hl => ?_)⟩⟩
  ·obtain ⟨nm, b, rfl, hb⟩ := tb.key hv
   obtain ⟨v, ev, kv⟩ := tb.get hb
   have hk' := sm kd _ ao
   have dg : gK H' kd (V.str nm) (some v) := .inl ⟨kvs, .inr nm, .inr ⟨o, hk'⟩, rfl, ev.symm⟩
   have fin : Q' (decide (V.bl (qt bn nm) = V.bl (decide (V.str so = V.str "deed")))) H' := by
    have e : smP bn (decide (so = "deed")) (.str nm) = decide (V.bl (qt bn nm) = V.bl (decide (V.str so = V.str "deed"))) := by
     show decide (qt bn nm = decide (so = "deed")) = _
     rw [decide_eq_decide.mpr (show so = "deed" ↔ V.str so = V.str "deed" from ⟨congrArg V.str, V.str.inj⟩)]
     exact decide_eq_decide.mpr ⟨congrArg V.bl, V.bl.inj⟩
    rw [<- e]
    exact k H' (az.refl _)
   cases b with
   | num n =>
    have ed : qt bn nm = false := by unfold qt; rw [hb]
    rw [ed] at fin
    obtain rfl : v = .int n := kv
    refine ⟨_, rfl, _, rfl, kd, _, rfl, dg, _, _, _, false, rfl, .int _, pY Z4 Z4 Z4, _, rfl, rfl, rfl, _, rfl, fin⟩
   | deed ts =>
    have ed : qt bn nm = true := by unfold qt; rw [hb]
    rw [ed] at fin
    obtain ⟨lt, rfl, xs, hx, _⟩ := kv
    have hx' := sm lt _ (by rw [aA (aF hx hk Z6)]; exact hx)
    refine ⟨_, rfl, _, rfl, kd, _, rfl, dg, _, _, _, _, rfl, .lst hx', lU, _, rfl, rfl, rfl, _, rfl, fin⟩
  ·exact ⟨_, rfl, k H' (az.refl _)⟩
  ·have sh : az H (upd (upd H7 l (.lst ((kvs.map fun kv => kV kv.1).filter (smP bn (decide (so = "deed")))))) kd (.dK kvs)) := fun b o e => by
    by_cases z : b = kd
    ·subst z; rw [ao, <- e, hk]
    ·rw [aA z]
     have := s7 b o (by rw [aA z]; exact e)
     rw [aA (ak this hl)]; exact this
   have hk7 := s7 kd _ ao
   refine ⟨o, by rw [aA (ak hk7 hl)]; exact hk7, ?_⟩
   have hl2 : (upd (upd H7 l (.lst ((kvs.map fun kv => kV kv.1).filter (smP bn (decide (so = "deed")))))) kd (.dK kvs)) l = some (.lst ((kvs.map fun kv => kV kv.1).filter (smP bn (decide (so = "deed"))))) := by rw [aA (ak hk7 hl).symm]; exact ao
   generalize upd (upd H7 l (.lst ((kvs.map fun kv => kV kv.1).filter (smP bn (decide (so = "deed")))))) kd (.dK kvs) = H8 at sh hl2 ⊢
   have hnil : ∀ v ∈ (kvs.map fun kv => kV kv.1).filter (smP bn (decide (so = "deed"))), ∃ z b, v = .str z /\ bn.lookup z = some b /\ qt bn z = decide (so = "deed") := fun v hv => by
    obtain ⟨h1, h2⟩ := mem_filter.mp hv
    obtain ⟨nm, b, rfl, hb⟩ := tb.key h1
    exact ⟨nm, b, rfl, hb, of_decide_eq_true h2⟩
   have hlen : ((kvs.map fun kv => kV kv.1).filter (smP bn (decide (so = "deed")))).length <= 12 := le_trans (length_filter_le _ _) (by rw [length_map]; omega)
   generalize (kvs.map fun kv => kV kv.1).filter (smP bn (decide (so = "deed"))) = xs at hl2 hnil hlen
   refine ⟨_, rfl, zero_le _, fun l3 hl3 => ?_⟩
   have s3 : az H8 (upd H8 l3 (.lst [])) := az.new hl3
   refine ⟨l, l3, xs, rfl, rfl, SqL.of (s3 _ _ hl2), SqL.of ao, ?_⟩
   cases xs with
   | nil => exact ⟨_, rfl, dM rfl (q _ _ (sh.trans s3) (.inl rfl))⟩
   | cons x0 xs =>
    refine ⟨_, rfl, cj rfl ?_⟩
    have hlp : (0 : Int) < ((x0 :: xs).length : Nat) := by rw [length_cons]; omega
    refine ⟨_, rfl, _, rfl, _, rfl, _, rfl, l, _, rfl, .inl (SqL.of (s3 _ _ hl2)), c, k, _, rfl, k0, k1, hlp, fun H9 s9 => ?_⟩
    have g1 := jm c k hlp
    have g2 := jn c k hlp
    have hi : (pick c k ((x0 :: xs).length : Nat)).toNat < (x0 :: xs).length := by omega
    obtain ⟨z, b, ez, hb, hd⟩ := hnil _ (getElem_mem hi)
    refine ⟨l, _, _, _, rfl, rfl, SqL.of (s9 _ _ (s3 _ _ hl2)), (by
     have e := aZ (xs := x0 :: xs) (j := (pick c k ((x0 :: xs).length : Nat)).toNat) (getElem?_eq_getElem hi)
     rw [show (((pick c k ((x0 :: xs).length : Nat)).toNat : Nat) : Int) = pick c k ((x0 :: xs).length : Nat) from by omega] at e
     exact e), ?_⟩
    rw [ez]
    exact q z H9 ((sh.trans s3).trans s9) (.inr ⟨b, hb, hd⟩)
theorem wO (T : Tx K mg C) (F : Fun K "_law_terms" "_law_terms" jR f fd) : aG P w K mg base CX0 3 f fd tE vR := by
 obtain ⟨fa1, da1, Aa1⟩ := T.aa1
 have Ga1 : aG P w K mg base CX0 1 fa1 da1 Cq Jg := JQ Aa1.F
 obtain ⟨faw, daw, Aaw⟩ := T.aaw
 have Gaw : aG P w K mg base CX0 2 faw daw wQ zf := yc T Aaw.F
 obtain ⟨fab, dab, Aab⟩ := T.aab
 have Gab : aG P w K mg base CX0 1 fab dab pO tY := sZ Aab.F
 obtain ⟨faz, daz, Aaz⟩ := T.aaz
 have Gaz : aG P w K mg base CX0 1 faz daz qG yz := CW Aaz.F
 refine F.oq kZ fun _ _ _ _ H _ Q E hr h => ?_
 ·obtain ⟨kd, bn, c, b, rfl, kn, ln, nms, q⟩ := h
  have hr1 : aR 1 _ := hr.mono Z0
  have hr2 : aR 2 _ := hr
  refine ⟨_, QSs.h (aq (aO (i := 3) kZ.nd rfl (Or.inl rfl) (b8 au))
   (aq (dj PassesOwn.never rfl (gj Z3 T.range (aj (aP cI aB (bj Aab Gab hr1 (aj (pv 1) (aj aB (aj aB au))))) au)) (aJ (i := 4) kZ.nd rfl (Or.inl rfl))
   (aq (aO (i := 5) kZ.nd rfl (Or.inl rfl) (bj Aa1 Ga1 hr1 (aj (pv 1) (aj (aP cI (pv 4) aB) au))))
   (aq (aO (i := 6) kZ.nd rfl (Or.inl rfl) (bA bC (b8 (aj aB (aj (aP pD aB (aP fM aB (bj Aab Gab hr1 (aj (pv 5) (aj aB (aj aB au)))))) au))) (cA Dq Z3 T.t_int boot_int (aj (iI tX (pv 4) aB (aN _)) au))))
   (aq (aO (i := 7) kZ.nd rfl (Or.inl rfl) (bj Aaw Gaw hr2 (aj (pv 0) (aj aL (aj (pv 5) (aj aB au))))))
   (aq (aO (i := 8) kZ.nd rfl (Or.inl rfl) (bj Aaw Gaw hr2 (aj (pv 0) (aj aL (aj (pv 5) (aj aB au))))))
   (aq (aO (i := 9) kZ.nd rfl (Or.inl rfl) (bj Aab Gab hr1 (aj (pv 5) (aj aB (aj aB au)))))
   (aC (bz (PW.pt (mD (aK cN (pv 9) aB (aN _)) (mD (fY (pv 2)) (kW (aK km (pv 8) aL (aN _)))))) (aC (bh (eQ plainAttrs_list PySem.F.slot_list_append PySem.F.type_list_append bH (pv 3) (aj (bD (aj (pv 6) (aj aL (aj (bD (aj (pv 8) au)) au)))) au)))) (aC (bz (PW.pt (mD (aK FJ (pv 9) aB (aN _)) (kW (aK km (pv 7) aL (aN _))))) (aC (bh (eQ plainAttrs_list PySem.F.slot_list_append PySem.F.type_list_append bH (pv 3) (aj (bD (aj (pv 6) (aj aL (aj (bD (aj (pv 7) au)) au)))) au)))) (aC (bh (eQ plainAttrs_list PySem.F.slot_list_append PySem.F.type_list_append bH (pv 3) (aj (bD (aj (pv 6) (aj aL (aj (bj Aaz Gaz hr1 (aj (pv 5) (aj (bA bC (b8 (aj aB (aj (aP JH aB aB) (aj aB (aj aB au))))) (bj Aab Gab hr1 (aj (pv 5) (aj aB (aj aB au))))) au))) au)))) au))))))))))))))
   (aC (aM (pv 3))))), ?_⟩
  refine ⟨zero_le _, fun p hp => ?_⟩
  have s0 : az H (upd H p (.lst [])) := az.new hp
  have hp0 : upd H p (.lst []) p = some (.lst []) := ao
  generalize upd H p (.lst []) = H1 at s0 hp0 ⊢
  have m1 := jm c 4 (m := 6) Z0
  have m2 := jn c 4 (m := 6) Z0
  refine ⟨_, rfl, c, 4, 6, rfl, Z0, Z0, Z0, fun H2 s2 => ?_⟩
  refine ⟨_, _, rfl, rfl, _, rfl, Z1, Z1, ?_⟩
  refine n8 (fun i σ H' => ∃ v4 v5 v6 v7 v8 v9 ts, σ = [some (.ref kd), some (.int c), some (.bl b), some (.ref p), v4, v5, v6, v7, v8, v9] /\ az H H' /\ fO H' p ts /\ ts.length = i /\ (∀ t ∈ ts, JS bn b t) /\ ∀ t, ts.head? = some t -> t.sg = 1) ⟨none, none, none, none, none, none, [], rfl, s0.trans s2, ⟨[], s2 _ _ hp0, rfl, (fun i x e => by cases e)⟩, rfl, (fun t ht => by cases ht), (fun t ht => by cases ht)⟩ ?_ ?_
  ·rintro i σ H3 hi ⟨v4, v5, v6, v7, v8, v9, ts, rfl, s3, tm, tl, tk, th⟩
   have hi6 : i < 6 := by
    have : i < (1 + pick c 4 6).toNat := hi
    omega
   refine ⟨_, rfl, _, rfl, _, _, rfl, rfl, c, 0 + (i : Int) + 1, rfl, Z1, Z1, fun H4 s4 => ?_⟩
   generalize sub c (0 + (i : Int) + 1) = one
   have k1 := jm one 5 (m := 2) Z0
   have k2 := jn one 5 (m := 2) Z0
   refine ⟨_, rfl, one, 5, 2, rfl, Z0, Z0, Z0, fun H5 s5 => ⟨_, _, rfl, rfl, .inl ⟨Z0, Z0⟩, _, _, rfl, rfl, by show 2 <= sizeLine; decide, fun p2 hp2 => ?_⟩⟩
   have hat : atI [V.int 1, V.int (1 - 2 * pick one 5 2)] (if decide ((0 : Int) < 0 + (i : Int)) = true then 1 else 0) = some (V.int (if i = 0 then 1 else 1 - 2 * pick one 5 2)) := by
    cases i with
    | zero => rfl
    | succ j => rw [if_pos (decide_eq_true Z1), if_neg Z1]; rfl
   refine ⟨_, rfl, _, _, rfl, rfl, .inr ⟨_, rfl, p2, _, _, _, rfl, rfl, SqL.of ao, hat, ?_⟩⟩
   have hsg : (if i = 0 then (1 : Int) else 1 - 2 * pick one 5 2) = 1 \/ (if i = 0 then (1 : Int) else 1 - 2 * pick one 5 2) = -1 := by split <;> omega
   have hfst : i = 0 -> (if i = 0 then (1 : Int) else 1 - 2 * pick one 5 2) = 1 := fun e => if_pos e
   generalize (if i = 0 then (1 : Int) else 1 - 2 * pick one 5 2) = sg at hsg hfst
   have s6 : az H3 (upd H5 p2 (.lst [V.int 1, V.int (1 - 2 * pick one 5 2)])) := (s4.trans s5).put hp2
   generalize upd H5 p2 (.lst [V.int 1, V.int (1 - 2 * pick one 5 2)]) = H6 at s6
   clear hat k1 k2
   refine ⟨_, rfl, _, rfl, kd, bn, "number", one, 6, rfl, kn.same (s3.trans s6), ln, Z0, Z0, fun nz H7 s7 hz => ?_⟩
   refine ⟨_, rfl, _, rfl, kd, bn, "deed", one, 7, rfl, kn.same ((s3.trans s6).trans s7), ln, Z0, Z0, fun dz H8 s8 hd => ?_⟩
   refine ⟨_, rfl, one, 8, 4, rfl, Z0, Z0, Z0, fun H9 s9 => ?_⟩
   generalize pick one 8 4 = way
   have s10 : az H3 H9 := s6.trans (s7.trans (s8.trans s9))
   have fin : ∀ v t H', az H9 H' -> qM H' v t -> JS bn b t -> t.sg = sg -> ∀ xs, H' p = some (.lst xs) -> fO (upd H' p (.lst (xs ++ [v]))) p (ts ++ [t]) /\ az H (upd H' p (.lst (xs ++ [v]))) /\ (ts ++ [t]).length = i + 1 /\ (∀ u ∈ ts ++ [t], JS bn b u) /\ ∀ u, (ts ++ [t]).head? = some u -> u.sg = 1 := fun v t H' s tv ok es xs hx => by
    refine ⟨Gr (tm.same (s10.trans s)) hx tv, ((s3.trans s10).trans s).over hp, by rw [length_append, tl]; rfl, fun u hu => ?_, fun u hu => ?_⟩
    ·rcases mem_append.mp hu with k | k
     ·exact tk u k
     ·rw [mem_singleton.mp k]; exact ok
    ·cases ts with
     | nil =>
      have := Option.some.inj hu
      rw [<- this, es]
      exact hfst tl.symm
     | cons a ts => exact th u hu
   obtain ⟨xs, hx3, hxl, hxt⟩ := id tm
   have hx9 := s10 _ _ hx3
   have lx : xs.length < 100 := by omega
   refine ⟨_, rfl, rfl, _, rfl, ?_⟩
   apply Ag
   ·intro key
    by_cases w0 : way = 0
    ·refine dM (decide_eq_true (congrArg V.int w0)) ⟨_, rfl, _, rfl, ?_⟩
     by_cases hb : b = true
     ·refine dM hb ⟨_, rfl, rfl, _, rfl, ?_⟩
      by_cases hdz : dz = ""
      ·exact cj (by rw [decide_eq_true (congrArg V.str hdz)]; rfl) key
      ·refine dM (by rw [decide_eq_false fun z => hdz (V.str.inj z)]; rfl) ?_
       refine ⟨_, rfl, .inl ⟨rfl, _, SqL.of hx9⟩, _, rfl, _, rfl, by show 1 <= sizeLine; decide, fun t1 ht1 => ⟨by show 3 <= sizeLine; decide, fun t2 ht2 => ?_⟩⟩
       have sa : az H9 (upd (upd H9 t1 (.tup [.str dz])) t2 (.tup [.int sg, .str "call", .ref t1])) := (az.new ht1).trans (az.new ht2)
       have hx' := sa _ _ hx9
       have e1 : upd (upd H9 t1 (.tup [.str dz])) t2 (.tup [.int sg, .str "call", .ref t1]) t1 = some (.tup [.str dz]) := (az.new ht2) _ _ ao
       have e2 : upd (upd H9 t1 (.tup [.str dz])) t2 (.tup [.int sg, .str "call", .ref t1]) t2 = some (.tup [.int sg, .str "call", .ref t1]) := ao
       generalize upd (upd H9 t1 (.tup [.str dz])) t2 (.tup [.int sg, .str "call", .ref t1]) = Ha at sa hx' e1 e2 ⊢
       refine ⟨p, xs, _, rfl, rfl, hx', lt_of_lt_of_le (show xs.length < 1000 by omega) Z0, ?_⟩
       obtain ⟨bb, eb, ed⟩ := hd.resolve_left hdz
       have gt : zm ⟨sg, .nms true [dz]⟩ := ⟨hsg, Z2, by show 1 <= 4; decide, fun y hy => by rw [mem_singleton.mp hy]; exact nms _ _ eb⟩
       have hdd : ∃ us, bn.lookup dz = some (.deed us) := by
        cases bb with
        | deed us => exact ⟨us, eb⟩
        | num n => rw [show qt bn dz = false by unfold qt; rw [eb], decide_eq_true rfl] at ed; cases ed
       obtain ⟨us, hus⟩ := hdd
       obtain ⟨f1, f2, f3, f4, f5⟩ := fin (.ref t2) ⟨sg, .nms true [dz]⟩ Ha sa ⟨t2, _, rfl, e2, t1, rfl, e1⟩ ⟨gt, .inr ⟨dz, us, rfl, hus⟩, fun z => absurd hb (by rw [z]; decide)⟩ rfl xs hx'
       exact ⟨_, _, _, _, _, _, _, rfl, f2, f1, f3, f4, f5⟩
     ·exact cj (by simpa using hb) (iR key)
    ·exact cj (decide_eq_false fun z => w0 (V.int.inj z)) (iR key)
   ·refine ⟨_, rfl, _, _, rfl, rfl, _, rfl, ?_⟩
    apply Ag
    ·intro key
     by_cases w3 : way < 3
     ·refine dM (decide_eq_true w3) ⟨_, rfl, rfl, _, rfl, ?_⟩
      by_cases hnz : nz = ""
      ·exact cj (by rw [decide_eq_true (congrArg V.str hnz)]; rfl) key
      refine dM (by rw [decide_eq_false fun z => hnz (V.str.inj z)]; rfl) ?_
      refine ⟨_, rfl, .inl ⟨rfl, _, SqL.of hx9⟩, _, rfl, _, rfl, by show 1 <= sizeLine; decide, fun t1 ht1 => ⟨by show 3 <= sizeLine; decide, fun t2 ht2 => ?_⟩⟩
      have sa : az H9 (upd (upd H9 t1 (.tup [.str nz])) t2 (.tup [.int sg, .str "path", .ref t1])) := (az.new ht1).trans (az.new ht2)
      have hx' := sa _ _ hx9
      have e1 : upd (upd H9 t1 (.tup [.str nz])) t2 (.tup [.int sg, .str "path", .ref t1]) t1 = some (.tup [.str nz]) := (az.new ht2) _ _ ao
      have e2 : upd (upd H9 t1 (.tup [.str nz])) t2 (.tup [.int sg, .str "path", .ref t1]) t2 = some (.tup [.int sg, .str "path", .ref t1]) := ao
      generalize upd (upd H9 t1 (.tup [.str nz])) t2 (.tup [.int sg, .str "path", .ref t1]) = Ha at sa hx' e1 e2 ⊢
      refine ⟨p, xs, _, rfl, rfl, hx', lt_of_lt_of_le (show xs.length < 1000 by omega) Z0, ?_⟩
      obtain ⟨bb, eb, ed⟩ := hz.resolve_left hnz
      have gt : zm ⟨sg, .nms false [nz]⟩ := ⟨hsg, Z2, by show 1 <= 4; decide, fun y hy => by rw [mem_singleton.mp hy]; exact nms _ _ eb⟩
      have hdd : ∃ n, bn.lookup nz = some (.num n) := by
       cases bb with
       | num n => exact ⟨n, eb⟩
       | deed us => rw [show qt bn nz = true by unfold qt; rw [eb], decide_eq_false Z4] at ed; cases ed
      obtain ⟨n, hn⟩ := hdd
      have t0 : Ty0 bn (.nms false [nz]) := .inr ⟨nz, n, rfl, hn⟩
      obtain ⟨f1, f2, f3, f4, f5⟩ := fin (.ref t2) ⟨sg, .nms false [nz]⟩ Ha sa ⟨t2, _, rfl, e2, t1, rfl, e1⟩ ⟨gt, .inl t0, fun _ => t0⟩ rfl xs hx'
      exact ⟨_, _, _, _, _, _, _, rfl, f2, f1, f3, f4, f5⟩
     ·exact cj (decide_eq_false w3) (iR key)
    ·refine ⟨_, rfl, .inl ⟨rfl, _, SqL.of hx9⟩, _, rfl, _, rfl, _, _, rfl, rfl, ⟨Z0, Z0, Z0⟩, by show 4 <= sizeLine; decide, fun p2 hp2 => ?_⟩
     obtain ⟨fv, hfat, hfm⟩ := Ip (xs := [V.int 10, V.int (10 ^ (20 : Int).toNat), V.int 1, V.int 1000]) (c := one) (k := 9) (Nat.succ_pos _)
     have hfar : ∃ far : Int, fv = .int far /\ 0 < far /\ far <= 10 ^ 20 := by
      simp only [mem_cons, not_mem_nil, or_false] at hfm
      rcases hfm with rfl | rfl | rfl | rfl
      ·exact ⟨_, rfl, Z0, Z0⟩
      ·exact ⟨_, rfl, Z0, Z0⟩
      ·exact ⟨_, rfl, Z0, Z0⟩
      ·exact ⟨_, rfl, Z0, Z0⟩
     obtain ⟨far, rfl, f0, f1⟩ := hfar
     refine ⟨_, rfl, one, 9, 4, rfl, Z0, Z0, Z0, fun Hb sb => ⟨p2, _, _, V.int far, rfl, rfl, SqL.of (sb _ _ ao), hfat, ?_⟩⟩
     refine ⟨one, far, rfl, f0, fun Hc sc => ⟨by show 3 <= sizeLine; decide, fun t2 ht2 => ?_⟩⟩
     have n0 := Di one f0
     have n1 := CT one f0
     obtain ⟨m, em⟩ := Int.eq_ofNat_of_zero_le n0
     rw [em] at n1 ⊢
     have sa : az H9 (upd Hc t2 (.tup [.int sg, .str "number", .int (m : Nat)])) := (((az.new hp2).trans sb).trans sc).trans (az.new ht2)
     have hx' := sa _ _ hx9
     have e2 : upd Hc t2 (.tup [.int sg, .str "number", .int (m : Nat)]) t2 = some (.tup [.int sg, .str "number", .int (m : Nat)]) := ao
     generalize upd Hc t2 (.tup [.int sg, .str "number", .int (m : Nat)]) = Ha at sa hx' e2 ⊢
     refine ⟨p, xs, _, rfl, rfl, hx', lt_of_lt_of_le (show xs.length < 1000 by omega) Z0, ?_⟩
     have t0 : Ty0 bn (.num m) := .inl ⟨m, rfl⟩
     obtain ⟨f1, f2, f3, f4, f5⟩ := fin (.ref t2) ⟨sg, .num m⟩ Ha sa ⟨t2, _, rfl, e2, rfl⟩ ⟨⟨hsg, by show m < 10 ^ 20; omega⟩, .inl t0, fun _ => t0⟩ rfl xs hx'
     exact ⟨_, _, _, _, _, _, _, rfl, f2, f1, f3, f4, f5⟩
  ·rintro σ H3 ⟨v4, v5, v6, v7, v8, v9, ts, rfl, s3, tm, tl, tk, th⟩
   refine ⟨_, rfl, q p ts H3 hp s3 tm ⟨fun z => ?_, Z1, fun t ht => (tk t ht).g, th⟩ (fun t ht => (tk t ht).t1) fun e t ht => (tk t ht).t0 e⟩
   rw [z] at tl
   simp at tl
   omega
theorem zu (T : Tx K mg C) (F : Fun K "_law_sum" "_law_sum" my f fd) : aG P w K mg base CX0 1 f fd tH GC := by
 obtain ⟨fad, dad, Aad⟩ := T.aad
 have Gad : aG P w K mg base CX0 0 fad dad tH An := Bj
 refine F.oq ie fun _ _ _ _ H _ Q E hr h => ?_
 ·obtain ⟨kd, bn, l, ts, rfl, kn, ⟨ys, hys, hyl, hyt⟩, hg, hy, q⟩ := h
  have hr2 : aR 0 _ := hr
  refine ⟨_, QSs.h (aq (aO (i := 2) ie.nd rfl (Or.inl rfl) aB)
   (aq (dj PassesOwn.never rfl (bO (pv 1)) (dH (K := K) (n := 3) rfl rfl (aV (aJ (i := 3) ie.nd rfl (Or.inl rfl)) (aV (aJ (i := 4) ie.nd rfl (Or.inl rfl)) (aV (aJ (i := 5) ie.nd rfl (Or.inl rfl)) du))))
   (aq (aO (i := 6) ie.nd rfl (Or.inl rfl) (pv 5))
   (aq (bz (aK cN (pv 4) aL (aN _)) (aC (aO (i := 6) ie.nd rfl (Or.inl rfl) (dw (aR.u1 hr) (pv 0) (bA c7 (pv 5) aB) (fun _ _ => rfl)))) aU)
   (aq (bz (aK cN (pv 4) aL (aN _)) (aC (aO (i := 6) ie.nd rfl (Or.inl rfl) (bj Aad Gad hr2 (aj (pv 0) (aj (dw (aR.u1 hr) (pv 0) (bA c7 (pv 5) aB) (fun _ _ => rfl)) au))))) aU)
   (aC (aO (i := 2) ie.nd rfl (Or.inl rfl) (aP cI (pv 2) (aP fM (pv 3) (pv 6)))))))))
   (aC (aM (pv 2))))), ?_⟩
  refine ⟨_, rfl, l, rfl, ⟨_, SqL.of hys⟩, ?_⟩
  refine cY (xs := ys) (fun i σ H2 => ∃ v3 v4 v5 v6, σ = [some (.ref kd), some (.ref l), some (.int ((ts.take i).map fun t => t.sg * tv0 bn t.th).sum), v3, v4, v5, v6] /\ az H H2) ⟨none, none, none, none, rfl, az.refl _⟩ (fun i σ H2 hi hv => ?_) (fun i y σ H2 ey hv => ?_) (fun σ H2 hv => ?_)
  ·obtain ⟨_, _, _, _, _, s⟩ := hv
   exact SqL.of (s _ _ hys)
  ·obtain ⟨v3, v4, v5, v6, rfl, s⟩ := hv
   obtain ⟨t, et, p, x, rfl, hp, hx⟩ := hyt i y ey
   have ht2 := mem_of_getElem? et
   refine ⟨p, _, rfl, SqT.of (s _ _ hp), rfl, _, _, rfl, _, _, rfl, _, _, rfl, rfl, ?_⟩
   have sgk := (hg.ok t ht2).sg
   rcases hy t ht2 with ⟨n, eth⟩ | ⟨nm, n, eth, hv⟩
   ·rw [eth] at hp hx
    obtain rfl : x = .int ((n : Nat) : Int) := hx
    rw [eth]
    refine ⟨_, rfl, _, rfl, rfl, _, rfl, cj (decide_eq_false (by intro z; exact absurd (V.str.inj z) (by show ¬ ("number" : Str) = "path"; decide +kernel))) ?_⟩
    refine ⟨_, rfl, rfl, _, rfl, cj (decide_eq_false (by intro z; exact absurd (V.str.inj z) (by show ¬ ("number" : Str) = "call"; decide +kernel))) ?_⟩
    refine ⟨_, rfl, _, rfl, _, rfl, _, _, rfl, rfl, pP sgk, _, _, rfl, rfl, ?_⟩
    exact ⟨_, _, _, _, by rw [jG (g := fun t => t.sg * tv0 bn t.th) et, eth]; rfl, s⟩
   ·rw [eth] at hp hx
    obtain ⟨r, rfl, hr2⟩ := hx
    rw [eth]
    refine ⟨_, rfl, _, rfl, rfl, _, rfl, dM (decide_eq_true (by show V.str "path" = V.str "path"; rfl)) ?_⟩
    obtain ⟨v, dg, kv⟩ := Ba (kn.same s) hv
    obtain rfl : v = .int n := kv
    refine ⟨_, rfl, _, rfl, r, _, _, _, rfl, rfl, SqT.of (s _ _ hr2), aZ (j := 0) rfl, kd, _, rfl, dg, ?_⟩
    refine ⟨_, rfl, rfl, _, rfl, cj (decide_eq_false (by intro z; exact absurd (V.str.inj z) (by show ¬ ("path" : Str) = "call"; decide +kernel))) ?_⟩
    refine ⟨_, rfl, _, rfl, _, rfl, _, _, rfl, rfl, pP sgk, _, _, rfl, rfl, ?_⟩
    exact ⟨_, _, _, _, by rw [jG (g := fun t => t.sg * tv0 bn t.th) et, eth, Ce hv]; rfl, s⟩
  ·obtain ⟨v3, v4, v5, v6, rfl, s⟩ := hv
   rw [hyl, take_length]
   exact ⟨_, rfl, q H2 s⟩
theorem zZ (T : Tx K mg C) (F : Fun K "_law_sum" "_law_sum" my f fd) : aG P w K mg base CX0 2 f fd tH Cr := by
 obtain ⟨fad, dad, Aad⟩ := T.aad
 have Gad : aG P w K mg base CX0 1 fad dad tH GC := zu T Aad.F
 refine F.oq ie fun _ _ _ _ H _ Q E hr h => ?_
 ·obtain ⟨kd, bn, l, ts, rfl, kn, ⟨ys, hys, hyl, hyt⟩, hg, hy, dd, q⟩ := h
  have hr2 : aR 1 _ := hr
  refine ⟨_, QSs.h (aq (aO (i := 2) ie.nd rfl (Or.inl rfl) aB)
   (aq (dj PassesOwn.never rfl (bO (pv 1)) (dH (K := K) (n := 3) rfl rfl (aV (aJ (i := 3) ie.nd rfl (Or.inl rfl)) (aV (aJ (i := 4) ie.nd rfl (Or.inl rfl)) (aV (aJ (i := 5) ie.nd rfl (Or.inl rfl)) du))))
   (aq (aO (i := 6) ie.nd rfl (Or.inl rfl) (pv 5))
   (aq (bz (aK cN (pv 4) aL (aN _)) (aC (aO (i := 6) ie.nd rfl (Or.inl rfl) (dw (aR.u1 hr) (pv 0) (bA c7 (pv 5) aB) (fun _ _ => rfl)))) aU)
   (aq (bz (aK cN (pv 4) aL (aN _)) (aC (aO (i := 6) ie.nd rfl (Or.inl rfl) (bj Aad Gad hr2 (aj (pv 0) (aj (dw (aR.u1 hr) (pv 0) (bA c7 (pv 5) aB) (fun _ _ => rfl)) au))))) aU)
   (aC (aO (i := 2) ie.nd rfl (Or.inl rfl) (aP cI (pv 2) (aP fM (pv 3) (pv 6)))))))))
   (aC (aM (pv 2))))), ?_⟩
  refine ⟨_, rfl, l, rfl, ⟨_, SqL.of hys⟩, ?_⟩
  refine cY (xs := ys) (fun i σ H2 => ∃ v3 v4 v5 v6, σ = [some (.ref kd), some (.ref l), some (.int ((ts.take i).map fun t => t.sg * tv bn t.th).sum), v3, v4, v5, v6] /\ az H H2) ⟨none, none, none, none, rfl, az.refl _⟩ (fun i σ H2 hi hv => ?_) (fun i y σ H2 ey hv => ?_) (fun σ H2 hv => ?_)
  ·obtain ⟨_, _, _, _, _, s⟩ := hv
   exact SqL.of (s _ _ hys)
  ·obtain ⟨v3, v4, v5, v6, rfl, s⟩ := hv
   obtain ⟨t, et, p, x, rfl, hp, hx⟩ := hyt i y ey
   have ht2 := mem_of_getElem? et
   refine ⟨p, _, rfl, SqT.of (s _ _ hp), rfl, _, _, rfl, _, _, rfl, _, _, rfl, rfl, ?_⟩
   have sgk := (hg.ok t ht2).sg
   rcases hy t ht2 with (⟨n, eth⟩ | ⟨nm, n, eth, hv⟩) | ⟨nm, us, eth, hv⟩
   ·rw [eth] at hp hx
    obtain rfl : x = .int ((n : Nat) : Int) := hx
    rw [eth]
    refine ⟨_, rfl, _, rfl, rfl, _, rfl, cj (decide_eq_false (by intro z; exact absurd (V.str.inj z) (by show ¬ ("number" : Str) = "path"; decide +kernel))) ?_⟩
    refine ⟨_, rfl, rfl, _, rfl, cj (decide_eq_false (by intro z; exact absurd (V.str.inj z) (by show ¬ ("number" : Str) = "call"; decide +kernel))) ?_⟩
    refine ⟨_, rfl, _, rfl, _, rfl, _, _, rfl, rfl, pP sgk, _, _, rfl, rfl, ?_⟩
    exact ⟨_, _, _, _, by rw [jG (g := fun t => t.sg * tv bn t.th) et, eth]; rfl, s⟩
   ·rw [eth] at hp hx
    obtain ⟨r, rfl, hr2⟩ := hx
    rw [eth]
    refine ⟨_, rfl, _, rfl, rfl, _, rfl, dM (decide_eq_true (by show V.str "path" = V.str "path"; rfl)) ?_⟩
    obtain ⟨v, dg, kv⟩ := Ba (kn.same s) hv
    obtain rfl : v = .int n := kv
    refine ⟨_, rfl, _, rfl, r, _, _, _, rfl, rfl, SqT.of (s _ _ hr2), aZ (j := 0) rfl, kd, _, rfl, dg, ?_⟩
    refine ⟨_, rfl, rfl, _, rfl, cj (decide_eq_false (by intro z; exact absurd (V.str.inj z) (by show ¬ ("path" : Str) = "call"; decide +kernel))) ?_⟩
    refine ⟨_, rfl, _, rfl, _, rfl, _, _, rfl, rfl, pP sgk, _, _, rfl, rfl, ?_⟩
    exact ⟨_, _, _, _, by rw [jG (g := fun t => t.sg * tv bn t.th) et, eth, Fi hv]; rfl, s⟩
   ·rw [eth] at hp hx
    obtain ⟨r, rfl, hr2⟩ := hx
    rw [eth]
    refine ⟨_, rfl, _, rfl, rfl, _, rfl, cj (decide_eq_false (by intro z; exact absurd (V.str.inj z) (by show ¬ ("call" : Str) = "path"; decide +kernel))) ?_⟩
    obtain ⟨v, dg, kv⟩ := Ba (kn.same s) hv
    obtain ⟨lu, rfl, tu⟩ := kv
    refine ⟨_, rfl, rfl, _, rfl, dM (decide_eq_true (by show V.str "call" = V.str "call"; rfl)) ?_⟩
    refine ⟨_, rfl, _, rfl, _, rfl, r, _, _, _, rfl, rfl, SqT.of (s _ _ hr2), aZ (j := 0) rfl, kd, _, rfl, dg, kd, bn, lu, us, rfl, kn.same s, tu, (dd nm us hv).1, (dd nm us hv).2, fun H3 s3 => ?_⟩
    refine ⟨_, rfl, _, rfl, _, rfl, _, _, rfl, rfl, pP sgk, _, _, rfl, rfl, ?_⟩
    exact ⟨_, _, _, _, by rw [jG (g := fun t => t.sg * tv bn t.th) et, eth, Bw hv]; rfl, s.trans s3⟩
  ·obtain ⟨v3, v4, v5, v6, rfl, s⟩ := hv
   rw [hyl, take_length]
   exact ⟨_, rfl, q H2 s⟩
theorem yN (T : Tx K mg C) (F : Fun K "_law_part" "_law_part" ni f fd) : aG P w K mg base CX0 8 f fd xq (xX C) := by
 obtain ⟨fab, dab, Aab⟩ := T.aab
 have Gab : aG P w K mg base CX0 1 fab dab pO tY := sZ Aab.F
 obtain ⟨fa7, da7, Aa7⟩ := T.aa7
 have Ga7 : aG P w K mg base CX0 3 fa7 da7 tE vR := wO T Aa7.F
 obtain ⟨fad, dad, Aad⟩ := T.aad
 have Gad : aG P w K mg base CX0 2 fad dad tH Cr := zZ T Aad.F
 obtain ⟨fai, dai, Aai⟩ := T.aai
 have Gai : aG P w K mg base CX0 2 fai dai iV zP := qF T Aai.F
 obtain ⟨fbv, dbv, Abv, M_Deed⟩ := T.i_Deed
 have Gbv : aG P w K mg base CX0 1 fbv dbv jx (wW C 1) := pR T Abv.F
 obtain ⟨fbm, dbm, Abm, M_Let⟩ := T.i_Let
 have Gbm : aG P w K mg base CX0 1 fbm dbm lJ (wW C 0) := qw T Abm.F
 obtain ⟨fbq, dbq, Abq, M_Need⟩ := T.i_Need
 have Gbq : aG P w K mg base CX0 1 fbq dbq jt (Ef C) := pJ T Abq.F
 obtain ⟨fbh, dbh, Abh, M_Part⟩ := T.i_Part
 have Gbh : aG P w K mg base CX0 1 fbh dbh jo (yP C) := pq T Abh.F
 refine F.oq nU fun _ _ _ _ H _ Q E hr h => ?_
 ·obtain ⟨lc, ln, cs, zs, ad, rfl, hc, c12, hn, cz, nd, nz, na, q⟩ := h
  have hr1 : aR 1 _ := hr.mono Z0
  have hr2 : aR 2 _ := hr.mono Z0
  have hr3 : aR 3 _ := hr.mono Z0
  refine ⟨_, QSs.h (aq (aO (i := 3) nU.nd rfl (Or.inl rfl) (b8 au))
   (aq (aO (i := 4) nU.nd rfl (Or.inl rfl) nT)
   (aq (aO (i := 5) nU.nd rfl (Or.inl rfl) (b8 au))
   (aq (dj PassesOwn.never rfl (gj Z3 T.range (aj (bf bJ Z3 T.len boot_len (aj (pv 0) au)) au)) (aJ (i := 6) nU.nd rfl (Or.inl rfl))
   (aq (aO (i := 7) nU.nd rfl (Or.inl rfl) (bj Aab Gab hr1 (aj (bA bC (pv 0) (pv 6)) (aj aB (aj aB au)))))
   (aq (aO (i := 8) nU.nd rfl (Or.inl rfl) (bj Aa7 Ga7 hr3 (aj (pv 4) (aj (bA bC (pv 0) (pv 6)) (aj (iI tX (pv 7) aB (aN _)) au)))))
   (aC (bz (aK cN (pv 7) aB (aN _)) (aq (bh (eQ plainAttrs_list PySem.F.slot_list_append PySem.F.type_list_append bH (pv 3) (aj (rJ M_Deed Abv.b Gbv hr2 T.c_Deed (aj (bA bC (pv 1) (pv 6)) (aj (pv 8) au))) au)))
   (aq (QS.mk (lK (aR.u1 hr) (pv 4) (bA bC (pv 1) (pv 6)) (pv 8) rfl))
   (aC (bh (eQ plainAttrs_list PySem.F.slot_list_append PySem.F.type_list_append bH (pv 5) (aj (bD (aj (bA bC (pv 1) (pv 6)) (aj (bD (aj aL (aj (pv 2) (aj (bA bC (pv 1) (pv 6)) (aj (bj Aai Gai hr2 (aj (pv 8) au)) au))))) au))) au)))))) (aC (bz (PW.pt (mD (aK cN (pv 7) aB (aN _)) (kW (aK cN (aP fL (pv 6) aB) aB (aN _))))) (aC (bh (eQ plainAttrs_list PySem.F.slot_list_append PySem.F.type_list_append bH (pv 3) (aj (rJ M_Need Abq.b Gbq hr2 T.c_Need (aj (pv 8) au)) au)))) (aq (bh (eQ plainAttrs_list PySem.F.slot_list_append PySem.F.type_list_append bH (pv 3) (aj (rJ M_Let Abm.b Gbm hr2 T.c_Let (aj (bA bC (pv 1) (pv 6)) (aj (pv 8) au))) au)))
   (aq (QS.mk (lK (aR.u1 hr) (pv 4) (bA bC (pv 1) (pv 6)) (bj Aad Gad hr2 (aj (pv 4) (aj (pv 8) au))) rfl))
   (aC (bh (eQ plainAttrs_list PySem.F.slot_list_append PySem.F.type_list_append bH (pv 5) (aj (bD (aj (bA bC (pv 1) (pv 6)) (aj (dw (aR.u1 hr) (pv 4) (bA bC (pv 1) (pv 6)) (fun _ _ => rfl)) au))) au)))))))))))))
   (aq (mX (N := ["_law_row"]) [none] (i := 9) nU.nd rfl (Or.inl rfl) rfl Z5 (bO (pv 3)) (fun cl C fp s H => (aJ (i := 0) (by decide +kernel : (["_law_row"] : List Str).Nodup) rfl (Or.inl rfl))) (fun cl C fp s H => (wH (fY (bf (xY (K := K) rfl) Z3 T.inst boot_isinstance (aj (pv 0) (aj (Gz T.c_Need) au)))))) (fun cl C fp s H => (pv 0)))
   (aq (bz (PW.pt (mD (aK (Fp (K := K) rfl hr.units) (pv 9) (b8 au) (aN _)) (kW (aK FJ (bf bJ Z3 T.len boot_len (aj (pv 3) au)) aB (aN _))))) (aC (bh (eQ plainAttrs_list PySem.F.slot_list_append PySem.F.type_list_append bH (pv 3) (aj (bA bC (pv 9) aB) au)))) aU)
   (aC (aM (bD (aj (rJ M_Part Abh.b Gbh hr2 T.c_Part (aj (pv 2) (aj (pv 3) au))) (aj (pv 5) au))))))))))), ?_⟩
  refine ⟨zero_le _, fun lr hlr => ?_⟩
  have s1 : az H (upd H lr (.lst [])) := az.new hlr
  have e1 : upd H lr (.lst []) lr = some (.lst []) := ao
  generalize upd H lr (.lst []) = H1 at s1 e1 ⊢
  intro kd hkd
  have s2 : az H1 (upd H1 kd (.dK [])) := az.new hkd
  have e2 : upd H1 kd (.dK []) kd = some (.dK []) := ao
  generalize upd H1 kd (.dK []) = H2 at s2 e2 ⊢
  refine ⟨zero_le _, fun ld hld => ?_⟩
  have s3 : az H2 (upd H2 ld (.lst [])) := az.new hld
  have e3 : upd H2 ld (.lst []) ld = some (.lst []) := ao
  generalize upd H2 ld (.lst []) = H3 at s3 e3 ⊢
  have nld : lr ≠ ld := ak (s2 _ _ e1) hld
  have i0 : uY C H H3 ⟨lr, kd, ld⟩ ad zs 0 [] [] [] [] H := ⟨az.refl _, (s1.trans s2).trans s3, hlr, s1.free hkd, (s1.trans s2).free hld, ⟨s3 _ _ (s2 _ _ e1), s3 _ _ e2, e3⟩, rfl, (fun j r h => by cases h), trivial, ⟨rfl, fun i nm b h => by cases h⟩, rfl, (fun r h => by cases h), ⟨(fun i r h => by cases h), (fun i r h => by cases h)⟩, fun r h => by cases h⟩
  have hc3 := i0.s _ _ hc
  refine ⟨_, rfl, lc, _, rfl, .inl (SqL.of hc3), ?_⟩
  rw [length_map]
  refine ⟨_, rfl, Z1, Z1, ?_⟩
  refine n8 (fun i σ H' => ∃ v6 v7 v8 rs xs kvs as B, σ = [some (.ref lc), some (.ref ln), some (.str ad), some (.ref lr), some (.ref kd), some (.ref ld), v6, v7, v8, none] /\ uY C H H' ⟨lr, kd, ld⟩ ad zs i rs xs kvs as B) ⟨none, none, none, [], [], [], [], H, rfl, i0⟩ ?_ ?_
  ·rintro i σ H4 hi ⟨v6, v7, v8, rs, xs, kvs, as, B, rfl, pi⟩
   have hi' : i < cs.length := by
    have : i < ((cs.length : Int)).toNat := hi
    omega
   have zat : zs[i]? = some zs[i] := getElem?_eq_getElem Z1
   have nzi : eZ zs[i] := nz _ (getElem_mem Z1)
   have hc4 := pi.s _ _ (pi.hb _ _ hc)
   have hn4 := pi.s _ _ (pi.hb _ _ hn)
   have cat : atI (cs.map V.int) (0 + (i : Int)) = some (.int cs[i]) := by
    rw [zero_add]; exact aZ (by rw [getElem?_map, getElem?_eq_getElem hi']; rfl)
   have nat : atI (zs.map V.str) (0 + (i : Int)) = some (.str zs[i]) := by
    rw [zero_add]; exact aZ (by rw [getElem?_map, zat]; rfl)
   refine ⟨_, rfl, _, rfl, lc, _, _, _, rfl, rfl, SqL.of hc4, cat, cs[i], 1, 4, rfl, Z0, Z0, Z0, fun H5 s5 => ?_⟩
   generalize pick cs[i] 1 4 = way
   replace pi := pi.go s5
   have bl := yx rs
   have rl := pi.ln
   refine ⟨_, rfl, _, rfl, _, rfl, lc, _, _, _, rfl, rfl, SqL.of (s5 _ _ hc4), cat, _, rfl, _, _, rfl, rfl, kd, bB rs, cs[i], _, rfl, pi.kn, Z1, ?_, fun lt ts H6 hlt s6 tm gts ty1 ty0 => ?_⟩
   ·intro nm b hb
    obtain ⟨j, r, hj, er, en, e0, _⟩ := uw (i := rs.length) (le_refl _) (by rw [take_length]; exact hb)
    have g := pi.gr r (mem_of_getElem? er)
    rw [<- en]
    rcases lt_or_ge r.so 5 with k | k
    ·exact g.nm k
    ·exact absurd (g.no (Nat.le_antisymm g.so k)) e0
   ·have a5 := pi.at3
    have hn6 := s6 _ _ (s5 _ _ hn4)
    have tl : ts.length <= 10 := le_trans gts.hi Z0
    have nat6 : ∀ {Hx : Hp}, Hx ln = some (.lst (zs.map V.str)) -> SqL K Hx ln (zs.map V.str) := fun h => SqL.of h
    have tm6 := a5.tms s6 hlt tm
    have hlt0 : H lt = none := pi.hb.free (pi.s.free hlt)
    have b6 := yE (e := ⟨lr, kd, ld⟩) (pi.s.trans s6) pi.b1 pi.b2 pi.b3
    replace pi := pi.go s6
    have a6 := pi.at3
    have lx : xs.length < 1000 := by rw [pi.xl]; omega
    have la : as.length < 1000 := by rw [pi.pr.1]; omega
    have lk : kvs.length < 1000 := by rw [pi.tb.len]; omega
    have hnew : (bB rs).lookup zs[i] = none := by
     cases hh : (bB rs).lookup zs[i] with
     | none => rfl
     | some c =>
      obtain ⟨j, r, hj, er, en, e0, _⟩ := uw (i := rs.length) (le_refl _) (by rw [take_length]; exact hh)
      have := pi.nm r (mem_of_getElem? er) e0
      rw [en] at this
      exact absurd this (Ci nd zat)
    refine ⟨_, rfl, rfl, _, rfl, zb (fun w0 => ?_) (fun w0 => ?_)⟩
    ·have ty0 := ty0 (decide_eq_false Z1)
     have gr : GoodR ⟨1, zs[i], dotted ["a"], "a", ts⟩ := ⟨by show 1 <= 5; decide, fun _ => nzi, fun z => absurd z (by show ¬ 1 = 5; decide), ⟨_, Eb DQ, rfl⟩, DQ, gts, fun _ t ht ys z => by
      rcases ty0 t ht with ⟨n, e⟩ | ⟨nm, v, e, _⟩
      ·rw [e] at z; cases z
      ·rw [e] at z; cases z⟩
     refine ⟨_, rfl, .inl ⟨rfl, _, SqL.of a6.r⟩, _, rfl, _, rfl, ln, _, _, _, rfl, rfl, SqL.of hn6, nat, _, rfl, fun x dx hx hdx hne => ⟨x, dx, ⟨1, zs[i], dotted ["a"], "a", ts⟩, lt, rfl, rfl, ao, tm.same (bQ hx hdx), tl, fun l H7 hl sb ra => ⟨rfl, ?_⟩⟩⟩
     have s7 : az H6 H7 := fun b o e => sb b o (bQ hx hdx b o e) (ak e hx)
     have r7 := a6.row s7 hx ((bQ hx hdx).free hl) ra
     have hx0 : H x = none := pi.hb.free (pi.s.free hx)
     have hl0 : H l = none := pi.hb.free (pi.s.free ((bQ hx hdx).free hl))
     have b7 := b6.trans (az.but3 (e := ⟨lr, kd, ld⟩) s7).er2
     have tm7 := tm6.same (az.but3 (e := ⟨lr, kd, ld⟩) s7).er2
     have a7 := a6.same s7
     have hn7 := s7 _ _ hn6
     clear ra sb hl hx hdx hne tm
     refine ⟨lr, xs, _, rfl, rfl, a7.r, lt_of_lt_of_le lx Z0, ?_⟩
     have a8 := a7.putr (ys := xs ++ [.ref x]) nld
     have c8 : oH ⟨lr, kd, ld⟩ H7 (upd H7 lr (.lst (xs ++ [.ref x]))) := wF
     have hn8 := c8 _ _ hn7 (ak hn hlr) (ak (s1 _ _ hn) hkd) (ak (s2 _ _ (s1 _ _ hn)) hld)
     change At3 (upd H7 lr (.lst (xs ++ [.ref x]))) _ _ _ _ at a8
     generalize upd H7 lr (.lst (xs ++ [.ref x])) = H8 at a8 c8 hn8 ⊢
     refine ⟨_, rfl, _, rfl, _, rfl, _, rfl, ln, _, _, _, rfl, rfl, SqL.of hn8, nat, kd, _, rfl, ut.k (k := .inr zs[i]) a8.k (lt_of_lt_of_le lk Z0), ?_⟩
     rw [tK _ (pi.tb.no hnew)]
     have a9 := a8.putk (kvt := kvs ++ [(.inr zs[i], .ref lt)])
     have c9 : oH ⟨lr, kd, ld⟩ H8 (upd H8 kd (.dK (kvs ++ [(.inr zs[i], .ref lt)]))) := Cz
     have hn9 := c9 _ _ hn8 (ak hn hlr) (ak (s1 _ _ hn) hkd) (ak (s2 _ _ (s1 _ _ hn)) hld)
     change At3 (upd H8 kd (.dK (kvs ++ [(.inr zs[i], .ref lt)]))) _ _ _ _ at a9
     generalize upd H8 kd (.dK (kvs ++ [(.inr zs[i], .ref lt)])) = H9 at a9 c9 hn9 ⊢
     have c79 := c8.trans c9
     refine ⟨_, rfl, .inl ⟨rfl, _, SqL.of a9.d⟩, _, rfl, _, rfl, ln, _, _, _, rfl, rfl, SqL.of hn9, nat, _, rfl, _, rfl, _, rfl, ln, _, _, _, rfl, rfl, SqL.of hn9, nat, _, rfl, lt, ts, rfl, tm7.same c79.er, gts, fun H10 s10 => ⟨by show 4 <= sizeLine; decide, fun t1 ht1 => ⟨by show 2 <= sizeLine; decide, fun t2 ht2 => ?_⟩⟩⟩
     have s12 : az H9 (upd (upd H10 t1 (.tup [.str "deed", .str ad, .str zs[i], .str (textOf ts)])) t2 (.tup [.str zs[i], .ref t1])) := s10.trans ((az.new ht1).trans (az.new ht2))
     have g1 : upd (upd H10 t1 (.tup [.str "deed", .str ad, .str zs[i], .str (textOf ts)])) t2 (.tup [.str zs[i], .ref t1]) t1 = some (.tup [.str "deed", .str ad, .str zs[i], .str (textOf ts)]) := (az.new ht2) _ _ ao
     have g2 : upd (upd H10 t1 (.tup [.str "deed", .str ad, .str zs[i], .str (textOf ts)])) t2 (.tup [.str zs[i], .ref t1]) t2 = some (.tup [.str zs[i], .ref t1]) := ao
     generalize upd (upd H10 t1 (.tup [.str "deed", .str ad, .str zs[i], .str (textOf ts)])) t2 (.tup [.str zs[i], .ref t1]) = H12 at s12 g1 g2 ⊢
     have a12 := a9.same s12
     refine ⟨ld, _, _, rfl, rfl, a12.d, lt_of_lt_of_le (show (as.map V.ref).length < 1000 by rw [length_map]; exact la) Z0, ?_⟩
     have em : as.map V.ref ++ [V.ref t2] = (as ++ [t2]).map V.ref := by rw [map_append]; rfl
     rw [em]
     have c12 := c79.trans (az.but3 (e := ⟨lr, kd, ld⟩) s12)
     have hB := pi.hb.trans (b7.trans c12.er2)
     have eb : bR (bB rs) ⟨1, zs[i], dotted ["a"], "a", ts⟩ = bB rs ++ [(zs[i], .deed ts)] := by
      unfold bR
      rw [if_neg (Je nzi)]
      rfl
     refine ⟨_, _, _, _, _, _, _, _, rfl, pi.add (l := l) (r := ⟨1, zs[i], dotted ["a"], "a", ts⟩) (b7.trans c12.er2) Bk.er xU xu wI (a12.putd nld) (zX hB hx0 hl0 (r7.same c12.er2)) gr (.inl ⟨rfl, ty0⟩) nd zat (.inr rfl) ?_ ?_⟩
     ·rw [eb]
      exact Tbl.snoc (show KnV _ (.deed ts) (.ref lt) from ⟨lt, rfl, Gj hB hlt0 (tm7.same c12.er2)⟩) (pi.tb.mono fun _ _ _ r => r.same (jy (b7.trans c12.er2)))
     ·rw [eb]
      exact yp (pi.pr.same (jy (b7.trans c12.er2))) (uA hB (a12.tup g2)) ⟨t1, rfl, uA hB (a12.tup g1)⟩
    ·refine ⟨_, rfl, rfl, _, rfl, ?_⟩
     apply Ag
     ·intro key
      by_cases w1 : way = 1
      ·refine dM (decide_eq_true (congrArg V.int w1)) ⟨_, rfl, _, _, rfl, rfl, (by show (0 : Int) < 3; decide), rfl, _, rfl, zb (fun _ => ?_) (fun _ => key)⟩
       have gr : GoodR ⟨5, "", dotted ["a"], "a", ts⟩ := ⟨by show 5 <= 5; decide, fun z => absurd z (by show ¬ 5 < 5; decide), fun _ => rfl, ⟨_, Eb DQ, rfl⟩, DQ, gts, fun z => absurd z (by show ¬ 5 = 1; decide)⟩
       refine ⟨_, rfl, .inl ⟨rfl, _, SqL.of a6.r⟩, _, rfl, fun x dx hx hdx hne => ⟨x, dx, ⟨5, "", dotted ["a"], "a", ts⟩, lt, rfl, rfl, ao, tm.same (bQ hx hdx), tl, fun l H7 hl sb ra => ⟨rfl, ?_⟩⟩⟩
       have s7 : az H6 H7 := fun b o e => sb b o (bQ hx hdx b o e) (ak e hx)
       have r7 := a6.row s7 hx ((bQ hx hdx).free hl) ra
       have hx0 : H x = none := pi.hb.free (pi.s.free hx)
       have hl0 : H l = none := pi.hb.free (pi.s.free ((bQ hx hdx).free hl))
       have b7 := b6.trans (az.but3 (e := ⟨lr, kd, ld⟩) s7).er2
       have a7 := a6.same s7
       refine ⟨lr, xs, _, rfl, rfl, a7.r, lt_of_lt_of_le lx Z0, ?_⟩
       have hB := pi.hb.trans b7
       have eb : bR (bB rs) ⟨5, "", dotted ["a"], "a", ts⟩ = bB rs := by
        unfold bR
        rw [if_pos rfl]
       refine ⟨_, _, _, _, _, _, _, _, rfl, pi.add (l := l) (r := ⟨5, "", dotted ["a"], "a", ts⟩) b7 wF.er xU xu wI (a7.putr nld) (zX hB hx0 hl0 r7) gr (.inr ⟨.inr rfl, ty1⟩) nd zat (.inl rfl) ?_ ?_⟩
       ·rw [eb]
        exact pi.tb.mono fun _ _ _ r => r.same (jy b7)
       ·rw [eb]
        exact pi.pr.same (jy b7)
      ·exact cj (decide_eq_false fun z => w1 (V.int.inj z)) (iR key)
     ·have dd : ∀ nm us, (bB rs).lookup nm = some (.deed us) -> lL us /\ ∀ t ∈ us, Ty0 (bB rs) t.th := fun nm us h => by
       have k := pi.ok.dd (i := rs.length) (le_refl _)
       rw [take_length] at k
       obtain ⟨k1, j, r, er, _, _, et, _⟩ := k nm us h
       exact ⟨et ▸ (pi.gr r (mem_of_getElem? er)).ts, k1⟩
      have gr : GoodR ⟨0, zs[i], dotted ["a"], "a", ts⟩ := ⟨by show 0 <= 5; decide, fun _ => nzi, fun z => absurd z (by show ¬ 0 = 5; decide), ⟨_, Eb DQ, rfl⟩, DQ, gts, fun z => absurd z (by show ¬ 0 = 1; decide)⟩
      refine ⟨_, rfl, .inl ⟨rfl, _, SqL.of a6.r⟩, _, rfl, _, rfl, ln, _, _, _, rfl, rfl, SqL.of hn6, nat, _, rfl, fun x dx hx hdx hne => ⟨x, dx, ⟨0, zs[i], dotted ["a"], "a", ts⟩, lt, rfl, rfl, ao, tm.same (bQ hx hdx), tl, fun l H7 hl sb ra => ⟨rfl, ?_⟩⟩⟩
      have s7 : az H6 H7 := fun b o e => sb b o (bQ hx hdx b o e) (ak e hx)
      have r7 := a6.row s7 hx ((bQ hx hdx).free hl) ra
      have hx0 : H x = none := pi.hb.free (pi.s.free hx)
      have hl0 : H l = none := pi.hb.free (pi.s.free ((bQ hx hdx).free hl))
      have b7 := b6.trans (az.but3 (e := ⟨lr, kd, ld⟩) s7).er2
      have tm7 := tm6.same (az.but3 (e := ⟨lr, kd, ld⟩) s7).er2
      have a7 := a6.same s7
      have hn7 := s7 _ _ hn6
      clear ra sb hl hx hdx hne tm
      refine ⟨lr, xs, _, rfl, rfl, a7.r, lt_of_lt_of_le lx Z0, ?_⟩
      have a8 := a7.putr (ys := xs ++ [.ref x]) nld
      have c8 : oH ⟨lr, kd, ld⟩ H7 (upd H7 lr (.lst (xs ++ [.ref x]))) := wF
      have hn8 := c8 _ _ hn7 (ak hn hlr) (ak (s1 _ _ hn) hkd) (ak (s2 _ _ (s1 _ _ hn)) hld)
      change At3 (upd H7 lr (.lst (xs ++ [.ref x]))) _ _ _ _ at a8
      generalize upd H7 lr (.lst (xs ++ [.ref x])) = H8 at a8 c8 hn8 ⊢
      refine ⟨_, rfl, _, rfl, kd, bB rs, lt, ts, rfl, ⟨kvs, a8.k, pi.tb.mono fun _ _ _ r => r.same (qy.trans (b7.trans c8.er))⟩, tm7.same c8.er, gts, ty1, dd, fun H9 s9 => ?_⟩
      replace a8 := a8.same s9
      replace c8 := c8.trans (az.but3 (e := ⟨lr, kd, ld⟩) s9)
      replace hn8 := s9 _ _ hn8
      refine ⟨_, rfl, _, rfl, _, rfl, ln, _, _, _, rfl, rfl, SqL.of hn8, nat, kd, _, rfl, ut.k (k := .inr zs[i]) a8.k (lt_of_lt_of_le lk Z0), ?_⟩
      have dv : jF (kvs ++ [((.inr zs[i] : Key), V.int (oV (bB rs) ts))]) (.inr zs[i]) = some (.int (oV (bB rs) ts)) := by rw [vU _ _ _ _ (pi.tb.no hnew), if_pos rfl]
      rw [tK _ (pi.tb.no hnew)]
      have a9 := a8.putk (kvt := kvs ++ [(.inr zs[i], .int (oV (bB rs) ts))])
      have c9 : oH ⟨lr, kd, ld⟩ H9 (upd H9 kd (.dK (kvs ++ [(.inr zs[i], .int (oV (bB rs) ts))]))) := Cz
      have hn9 := c9 _ _ hn8 (ak hn hlr) (ak (s1 _ _ hn) hkd) (ak (s2 _ _ (s1 _ _ hn)) hld)
      change At3 (upd H9 kd (.dK (kvs ++ [(.inr zs[i], .int (oV (bB rs) ts))]))) _ _ _ _ at a9
      generalize upd H9 kd (.dK (kvs ++ [(.inr zs[i], .int (oV (bB rs) ts))])) = H10 at a9 c9 hn9 ⊢
      have c79 := c8.trans c9
      refine ⟨_, rfl, .inl ⟨rfl, _, SqL.of a9.d⟩, _, rfl, _, rfl, ln, _, _, _, rfl, rfl, SqL.of hn9, nat, _, rfl, _, rfl, _, rfl, ln, _, _, _, rfl, rfl, SqL.of hn9, nat, kd, _, rfl, dv ▸ gK.k (k := .inr zs[i]) a9.k, by show 2 <= sizeLine; decide, fun t2 ht2 => ?_⟩
      have s12 : az H10 (upd H10 t2 (.tup [.str zs[i], .int (oV (bB rs) ts)])) := az.new ht2
      have g2 : upd H10 t2 (.tup [.str zs[i], .int (oV (bB rs) ts)]) t2 = some (.tup [.str zs[i], .int (oV (bB rs) ts)]) := ao
      generalize upd H10 t2 (.tup [.str zs[i], .int (oV (bB rs) ts)]) = H12 at s12 g2 ⊢
      have a12 := a9.same s12
      refine ⟨ld, _, _, rfl, rfl, a12.d, lt_of_lt_of_le (show (as.map V.ref).length < 1000 by rw [length_map]; exact la) Z0, ?_⟩
      have em : as.map V.ref ++ [V.ref t2] = (as ++ [t2]).map V.ref := by rw [map_append]; rfl
      rw [em]
      have c12 := c79.trans (az.but3 (e := ⟨lr, kd, ld⟩) s12)
      have hB := pi.hb.trans (b7.trans c12.er2)
      have eb : bR (bB rs) ⟨0, zs[i], dotted ["a"], "a", ts⟩ = bB rs ++ [(zs[i], .num (oV (bB rs) ts))] := by
       unfold bR
       rw [if_neg (Je nzi)]
       rfl
      refine ⟨_, _, _, _, _, _, _, _, rfl, pi.add (l := l) (r := ⟨0, zs[i], dotted ["a"], "a", ts⟩) (b7.trans c12.er2) Bk.er xU xu wI (a12.putd nld) (zX hB hx0 hl0 (r7.same c12.er2)) gr (.inr ⟨.inl rfl, ty1⟩) nd zat (.inr rfl) ?_ ?_⟩
      ·rw [eb]
       exact Tbl.snoc (show KnV _ (.num _) (.int _) from rfl) (pi.tb.mono fun _ _ _ r => r.same (jy (b7.trans c12.er2)))
      ·rw [eb]
       exact yp (pi.pr.same (jy (b7.trans c12.er2))) (uA hB (a12.tup g2)) rfl
  ·rintro σ H4 ⟨v6, v7, v8, rs, xs, kvs, as, B, rfl, pi⟩
   have a4 := pi.at3
   have rl : rs.length <= 12 := by
    have : rs.length = ((cs.length : Int)).toNat := pi.ln
    omega
   have xl := pi.xl
   refine ⟨_, rfl, lr, rfl, ⟨_, SqL.of a4.r⟩, yt (CQ rs) (fun j => (xs[j]?).getD .non) (le_trans (show xs.length <= 12 by omega) Z0) (SqL.of a4.r) (fun j x H' Q' hx sm k => ?_) (fun j x H' Q' hx sm k => ?_) (fun H5 s5 l hl => ?_)⟩
   ·have hj : j < rs.length := by rw [<- xl]; exact (List.getElem?_eq_some_iff.mp hx).1
    have er := getElem?_eq_getElem hj
    obtain ⟨a, lw, ea, ra⟩ := pi.xr j _ er
    obtain rfl : x = .ref a := by rw [hx] at ea; exact Option.some.inj ea
    obtain ⟨dx, fs, ha, _⟩ := ra
    have g := pi.gr _ (mem_of_getElem? er)
    have h6 : rs[j].so <= 6 := le_trans g.so Z0
    refine ⟨_, rfl, _, _, _, _, rfl, (T.fam.c _ h6).ty (sm _ _ (pi.s _ _ (qy _ _ ha))), T.fam.kit _ 5 h6 Z0, _, rfl, ?_⟩
    have e : Ds rs[j].so 5 = CQ rs j := by
     unfold Ds CQ
     rw [er]
     simp
    rw [e]
    exact k H' (az.refl _)
   ·rw [hx] at k
    exact ⟨_, rfl, k H' (az.refl _)⟩
   ·have hns : ∀ v ∈ ((List.range xs.length).filter (CQ rs)).map fun j => (xs[j]?).getD .non, ∃ (j : Nat) (r : bF), rs[j]? = some r /\ r.so = 5 /\ xs[j]? = some v := fun v hv => by
     obtain ⟨j, hj, rfl⟩ := mem_map.mp hv
     obtain ⟨h1, h2⟩ := mem_filter.mp hj
     have hj := mem_range.mp h1
     have er := getElem?_eq_getElem (show j < rs.length by omega)
     unfold CQ at h2
     rw [er] at h2
     exact ⟨j, _, er, of_decide_eq_true h2, by rw [getElem?_eq_getElem hj]; rfl⟩
    generalize ((List.range xs.length).filter (CQ rs)).map (fun j => (xs[j]?).getD .non) = ns at hns ⊢
    have s6 : az H4 (upd H5 l (.lst ns)) := s5.trans (az.new hl)
    have l6 : upd H5 l (.lst ns) l = some (.lst ns) := ao
    generalize upd H5 l (.lst ns) = H6 at s6 l6 ⊢
    refine ⟨_, rfl, zero_le _, fun l3 hl3 => ?_⟩
    have s7 : az H6 (upd H6 l3 (.lst [])) := az.new hl3
    have l7 : upd H6 l3 (.lst []) l3 = some (.lst []) := ao
    generalize upd H6 l3 (.lst []) = H7 at s7 l7 ⊢
    refine ⟨l, l3, ns, rfl, rfl, SqL.of (s7 _ _ l6), SqL.of l7, _, rfl, ?_⟩
    have a7 := (a4.same s6).same s7
    have b7 := (pi.s.trans s6).trans s7
    apply J9 (P := fun Hx => ∃ rs' xs', Hx lr = some (.lst xs') /\ xs'.length = rs'.length /\ (∀ (j : Nat) r, rs'[j]? = some r -> ∃ a l, xs'[j]? = some (.ref a) /\ gY C (nw H B) a l r) /\ az B Hx /\ Hx ld = some (.lst (as.map V.ref)) /\ bB rs' = bB rs /\ mR rs' /\ je rs')
    ·intro key
     have p7 : ∃ rs' xs', H7 lr = some (.lst xs') /\ xs'.length = rs'.length /\ (∀ (j : Nat) r, rs'[j]? = some r -> ∃ a l, xs'[j]? = some (.ref a) /\ gY C (nw H B) a l r) /\ az B H7 /\ H7 ld = some (.lst (as.map V.ref)) /\ bB rs' = bB rs /\ mR rs' /\ je rs' := ⟨rs, xs, a7.r, xl, pi.xr, b7, a7.d, rfl, pi.ok, rl, pi.gr⟩
     obtain ⟨H8, hH⟩ : ∃ Hq, Hq = H7 := ⟨_, rfl⟩
     rw [<- hH] at p7 a7 b7
     have l8 : H8 l = some (.lst ns) := by rw [hH]; exact s7 _ _ l6
     rw [<- hH]
     by_cases hn0 : ns = []
     ·exact cj (by rw [hn0]; rfl) (iR (key H8 p7))
     ·refine dM (by cases hh : ns with | nil => exact absurd hh hn0 | cons => rfl) ⟨_, rfl, lr, _, rfl, .inl (SqL.of a7.r), _, _, rfl, rfl, _, rfl, ?_⟩
      by_cases h12 : ((xs.length : Nat) : Int) < 12
      ·refine dM (decide_eq_true h12) ?_
       obtain ⟨n0, hn1⟩ : ∃ n0, ns[0]? = some n0 := ⟨_, getElem?_eq_getElem (List.length_pos_iff.mpr hn0)⟩
       obtain ⟨j, r, er, r5, ex⟩ := hns n0 (mem_of_getElem? hn1)
       obtain ⟨a, lw, ea, ra⟩ := pi.xr j r er
       obtain rfl : n0 = .ref a := by rw [ex] at ea; exact Option.some.inj ea
       have g := pi.gr r (mem_of_getElem? er)
       have n0 := g.no r5
       refine ⟨_, rfl, .inl ⟨rfl, _, SqL.of a7.r⟩, _, rfl, l, _, _, _, rfl, rfl, SqL.of l8, aZ (j := 0) hn1, lr, xs, _, rfl, rfl, a7.r, lt_of_lt_of_le (show xs.length < 1000 by omega) Z0, ?_⟩
       have eb : bB (rs ++ [r]) = bB rs := by rw [oF]; unfold bR; rw [if_pos n0]
       have ty : El (bB rs) r := by
        rcases pi.ok.ty j r er with ⟨k, _⟩ | ⟨k, h⟩
        ·omega
        ·refine .inr ⟨k, fun t ht => ?_⟩
         have := (h t ht).up (j := rs.length) (le_refl _) (le_of_lt (List.getElem?_eq_some_iff.mp er).1)
         rw [take_length] at this
         exact this
       have p9 : ∃ rs' xs', upd H8 lr (.lst (xs ++ [.ref a])) lr = some (.lst xs') /\ xs'.length = rs'.length /\ (∀ (j : Nat) r, rs'[j]? = some r -> ∃ a l, xs'[j]? = some (.ref a) /\ gY C (nw H B) a l r) /\ az B (upd H8 lr (.lst (xs ++ [.ref a]))) /\ upd H8 lr (.lst (xs ++ [.ref a])) ld = some (.lst (as.map V.ref)) /\ bB rs' = bB rs /\ mR rs' /\ je rs' := by
        refine ⟨rs ++ [r], xs ++ [.ref a], ao, by rw [length_append, length_append, xl]; rfl, fun j' r' h => ?_, fun b o e => by rw [aA (ak e pi.b1)]; exact b7 _ _ e, by rw [aA nld.symm]; exact a7.d, eb, pi.ok.snoc ty (fun hn => absurd n0 hn), by rw [length_append]; show rs.length + 1 <= 12; omega, fun r' h => ?_⟩
        ·rcases dW h with ⟨k, h⟩ | ⟨rfl, rfl⟩
         ·obtain ⟨b, m, e1, e2⟩ := pi.xr j' r' h
          exact ⟨b, m, by rw [getElem?_append_left (by rw [xl]; exact k)]; exact e1, e2⟩
         ·exact ⟨a, lw, by rw [<- xl, getElem?_append_right (le_refl _), sub_self]; rfl, ra⟩
        ·rcases mem_append.mp h with k | k
         ·exact pi.gr r' k
         ·rw [mem_singleton.mp k]; exact g
       obtain ⟨H9, hH9⟩ : ∃ Hq, Hq = upd H8 lr (.lst (xs ++ [.ref a])) := ⟨_, rfl⟩
       rw [<- hH9] at p9
       rw [<- hH9]
       exact key H9 p9
      ·exact cj (decide_eq_false h12) (key H8 p7)
    ·rintro Hx ⟨rs', xs', h1, h2, h3, h4, h5, h6, h7, h8⟩
     refine ⟨_, rfl, _, rfl, fun x dx hx hdx hne => ⟨x, dx, ad, lr, xs', rfl, ao, bQ hx hdx _ _ h1, fun lp Hy hl sb pa hlp => ⟨rfl, ?_⟩⟩⟩
     have sy : az Hx Hy := fun b o e => sb b o (bQ hx hdx b o e) (ak e hx)
     refine ⟨_, rfl, by show 2 <= sizeLine; decide, fun tt htt => ?_⟩
     have sz := az.new htt (o := .tup [.ref x, .ref ld])
     have sB := (h4.trans sy).trans sz
     have hx0 : H x = none := pi.hb.free (h4.free hx)
     have hl0 : H lp = none := pi.hb.free (h4.free ((bQ hx hdx).free hl))
     obtain ⟨dp, fp, e0, e1, e2, e3, e4, e5⟩ := pa
     refine q tt x lp ld as rs' _ (pi.hb.trans sB) ao ⟨dp, fp, ug hx0 (sz _ _ e0), e1, e2, e3, e4, e5, xs', ug hl0 (sz _ _ hlp), h2, fun j r er => ?_⟩ h8 h7 (ug ((s1.trans s2).free hld) (sz _ _ (sy _ _ h5))) (by rw [h6]; exact pi.pr.same (jy sB))
     obtain ⟨a, l, ea, ra⟩ := h3 j r er
     exact ⟨a, l, ea, ra.same (jy sB)⟩
theorem xJ (T : Tx K mg C) (F : Fun K "_law_tells" "_law_tells" jT f fd) : aG P w K mg base CX0 7 f fd tD (vy C) := by
 obtain ⟨fap, dap, Aap, M_snames⟩ := T.m_Shelf_names
 have Gap : aG P w K mg base CX0 5 fap dap eN (rn C) := lX T Aap.F
 obtain ⟨fbr, dbr, Abr, M_smeans⟩ := T.m_Shelf_means
 have Gbr : aG P w K mg base CX0 6 fbr dbr gF (vd C) := rm T Abr.F
 obtain ⟨fan, dan, Aan, M_sfilled⟩ := T.m_Shelf_filled
 have Gan : aG P w K mg base CX0 2 fan dan dJ (pU C) := lD T Aan.F
 obtain ⟨fbe, dbe, Abe, M_stouched⟩ := T.m_Shelf_touched
 have Gbe : aG P w K mg base CX0 5 fbe dbe eY (rK C) := pC T Abe.F
 refine F.oq qe fun _ _ _ _ H _ Q E hr h => ?_
 ·obtain ⟨s, h, f, dr, d, ad, bn, ld, as, rfl, ⟨dx, fs, hs, sf⟩, fu, hd, pr, nd, q⟩ := h
  have hr2 : aR 2 _ := hr.mono Z0
  have hr5 : aR 5 _ := hr.mono Z0
  have hr6 : aR 6 _ := hr
  refine ⟨_, QSs.h (aq (aO (i := 3) qe.nd rfl (Or.inl rfl) (bx (pv 0) T.sh.cl.cl M_snames Gap hr5 Aap.b .nil bG (aj (pv 1) au)))
   (aq (bz (PW.pt (tW (uv (fY (bf gb Z3 T.inst boot_isinstance (aj (pv 3) (aj (jY (v := .ty "list") Z3 T.t_list boot_list rfl) au))))) (tL (aK (rA (K := K) rfl hr.units) (pv 3) (pv 2) (aN _))))) (aC (aM oZ)) aU)
   (aq (dj PassesOwn.never rfl (bO (pv 2)) (dH (K := K) (n := 2) rfl rfl (aV (aJ (i := 4) qe.nd rfl (Or.inl rfl)) (aV (aJ (i := 5) qe.nd rfl (Or.inl rfl)) du)))
   (aq (aO (i := 6) qe.nd rfl (Or.inl rfl) (bx (pv 0) T.sh.cl.cl M_smeans Gbr hr6 Abr.b .nil bG (aj (pv 1) (aj (pv 4) au))))
   (aC (bz (PW.pt (tW (aK (FP km (rA (K := K) rfl hr.units)) (pv 6) (pv 5) (aN _)) (tW (fY (bf gb Z3 T.inst boot_isinstance (aj (pv 6) (aj (jY (v := .ty "bool") Z3 T.t_bool boot_bool rfl) au)))) (tL (aK km (bf gb Z3 T.inst boot_isinstance (aj (pv 6) (aj (jY (v := .ty "tuple") Z3 T.t_tuple boot_tuple rfl) au))) (bf gb Z3 T.inst boot_isinstance (aj (pv 5) (aj (jY (v := .ty "tuple") Z3 T.t_tuple boot_tuple rfl) au))) (aN _)))))) (aC (aM oZ)) aU))))
   (aC (aM (Az (iI (JG (K := K) rfl hr.units) (iY (pv 0) T.sh.cl.cl M_sfilled Gan hr2 Aan.b .nil bG) (b8 (aj (pv 1) au)) (aN _)) (zW (iI (Gm (K := K) rfl hr.units) (bx (pv 0) T.sh.cl.cl M_stouched Gbe hr5 Abe.b .nil bG (aj (pv 1) au)) (b8 au) (aN _))))))))), ?_⟩
  refine ⟨_, rfl, s, dx, fs, rfl, hs, sf.me _ Z4, _, rfl, s, h, f, dr, d, ad, bn, rfl, ⟨dx, fs, hs, sf⟩, fu, fun l bs H1 hl s1 h1 pr1 => ?_⟩
  refine ⟨_, rfl, _, _, _, _, rfl, .lst h1, lU, _, rfl, ?_⟩
  refine iR ⟨_, rfl, _, rfl, l, ld, rfl, rfl, JP pr1 (pr.same s1) h1 (s1 _ _ hd), _, rfl, iR ?_⟩
  refine ⟨_, rfl, ld, rfl, ⟨_, SqL.of (s1 _ _ hd)⟩, ?_⟩
  refine cY (xs := as.map V.ref) (fun i σ H' => ∃ v4 v5 v6, σ = [some (.ref s), some (.str ad), some (.ref ld), some (.ref l), v4, v5, v6] /\ az H H') ⟨none, none, none, rfl, s1⟩ (fun i σ H' hi hv => ?_) (fun i x σ H' hx hv => ?_) (fun σ H' hv => ?_)
  ·obtain ⟨_, _, _, _, s2⟩ := hv
   exact SqL.of (s2 _ _ hd)
  ·obtain ⟨v4, v5, v6, rfl, s2⟩ := hv
   have hi : i < bn.length := by
    have := (List.getElem?_eq_some_iff.mp hx).1
    rw [length_map, pr.1] at this
    exact this
   have ei := getElem?_eq_getElem hi
   obtain ⟨c, v, e1, t1, b1⟩ := pr.2 i _ _ ei
   rw [getElem?_map, e1] at hx
   obtain rfl := Option.some.inj hx
   refine ⟨c, _, rfl, SqT.of (s2 _ _ t1), rfl, _, _, rfl, _, _, rfl, rfl, ?_⟩
   refine ⟨_, rfl, s, dx, fs, rfl, s2 _ _ hs, sf.me _ Z4, _, rfl, _, rfl, s, h, f, dr, d, ad, _, bn, bn[i].2, rfl, ⟨dx, fs, s2 _ _ hs, sf⟩, fu.same s2, nd i _ _ ei, fun w H3 s3 bw => ?_⟩
   have bv := (b1.same s2).same s3
   generalize bn[i].1 = nm at bv bw
   generalize bn[i].2 = b at bv bw
   cases b with
   | num n =>
    obtain rfl : w = .int n := bw
    obtain rfl : v = .int n := bv
    refine ⟨_, rfl, _, rfl, .inl ⟨rfl, _, rfl, qH rfl ?_⟩⟩
    refine ⟨_, rfl, _, _, _, false, rfl, .int _, pY Z4 Z4 Z4, _, rfl, iR ?_⟩
    refine ⟨_, rfl, _, _, _, false, rfl, .int _, pY Z4 Z4 Z4, _, rfl, _, _, _, false, rfl, .int _, pY Z4 Z4 Z4, rfl, _, rfl, qH rfl ?_⟩
    exact ⟨_, _, _, rfl, s2.trans s3⟩
   | deed ts =>
    obtain ⟨t, rfl, ht⟩ := bw
    obtain ⟨u, rfl, hu⟩ := bv
    refine ⟨_, rfl, _, rfl, .inr ⟨t, u, rfl, rfl, ⟨0, _, _, Z0, rfl, .inl ⟨SqT.of ht, SqT.of hu⟩, fun j x y ex ey => ?_⟩, _, rfl, iR ?_⟩⟩
    ·rw [ex] at ey
     cases ey
     have hm := mem_of_getElem? ex
     simp only [mem_cons, not_mem_nil, or_false] at hm
     rcases hm with rfl | rfl | rfl | rfl <;> exact .str _
    refine ⟨_, rfl, _, _, _, false, rfl, .tup ht, pY Z4 Z4 Z4, _, rfl, iR ?_⟩
    refine ⟨_, rfl, _, _, _, _, rfl, .tup ht, lU, _, rfl, _, _, _, _, rfl, .tup hu, lU, rfl, _, rfl, qH rfl ?_⟩
    exact ⟨_, _, _, rfl, s2.trans s3⟩
  ·obtain ⟨v4, v5, v6, rfl, s2⟩ := hv
   have fu2 := fu.same s2
   refine ⟨_, rfl, s, dx, fs, rfl, s2 _ _ hs, sf.me _ Z4, s, h, f, dr, d, _, rfl, ⟨dx, fs, s2 _ _ hs, sf⟩, fu2.fl, fu2.en, fun l1 hl1 => ?_⟩
   have s3 : az H' (upd H' l1 (.lst [.str ad])) := az.new hl1
   have e3 : upd H' l1 (.lst [.str ad]) l1 = some (.lst [.str ad]) := ao
   generalize upd H' l1 (.lst [.str ad]) = H3 at s3 e3 ⊢
   refine ⟨_, rfl, by show 1 <= sizeLine; decide, fun l2 hl2 => ?_⟩
   have s4 : az H3 (upd H3 l2 (.lst [.str ad])) := az.new hl2
   have e4 : upd H3 l2 (.lst [.str ad]) l2 = some (.lst [.str ad]) := ao
   generalize upd H3 l2 (.lst [.str ad]) = H4 at s4 e4 ⊢
   refine ⟨l1, l2, rfl, rfl, ⟨0, _, _, Z0, rfl, .inr ⟨SqL.of (s4 _ _ e3), SqL.of e4⟩, fun j x y ex ey => ?_⟩, ?_⟩
   ·rw [ex] at ey
    cases ey
    rw [mem_singleton.mp (mem_of_getElem? ex)]
    exact .str _
   have s5 := (s2.trans s3).trans s4
   refine ⟨_, rfl, JW ⟨_, rfl, s, dx, fs, rfl, s5 _ _ hs, sf.me _ Z4, _, rfl, s, h, f, dr, d, ad, bn, rfl, ⟨dx, fs, s5 _ _ hs, sf⟩, fu.same s5, fun l3 H6 hl3 s6 h6 => ?_⟩⟩
   refine ⟨zero_le _, fun l4 hl4 => ⟨l3, l4, [], rfl, rfl, SqL.of ((az.new hl4) _ _ h6), SqL.of ao, ?_⟩⟩
   exact q _ ((s5.trans s6).trans (az.new hl4))
theorem Jy (T : Tx K mg C) (F : Fun K "law" "law" Fv f fd) : aG P w K mg base CX0 16 f fd Jm (Bp K) := by
 obtain ⟨fa9, da9, Aa9⟩ := T.aa9
 have Ga9 : aG P w K mg base CX0 2 fa9 da9 sX vP := wM T Aa9.F
 obtain ⟨fav, dav, Aav⟩ := T.aav
 have Gav : aG P w K mg base CX0 1 fav dav wy (Bq K) := G3 Aav.F T.len
 obtain ⟨fba, dba, Aba⟩ := T.aba
 have Gba : aG P w K mg base CX0 8 fba dba xq (xX C) := yN T Aba.F
 obtain ⟨fa5, da5, Aa5⟩ := T.aa5
 have Ga5 : aG P w K mg base CX0 7 fa5 da5 tD (vy C) := xJ T Aa5.F
 obtain ⟨fae, dae, Aae, M_hpart⟩ := T.m_House_part
 have Gae : aG P w K mg base CX0 3 fae dae dR (oA C) := jf T Aae.F
 obtain ⟨fa2, da2, Aa2, M_sdraw⟩ := T.m_Shelf_draw
 have Ga2 : aG P w K mg base CX0 15 fa2 da2 iC (yh C) := sE T Aa2.F
 obtain ⟨fan, dan, Aan, M_sfilled⟩ := T.m_Shelf_filled
 have Gan : aG P w K mg base CX0 2 fan dan dJ (pU C) := lD T Aan.F
 obtain ⟨fau, dau, Aau, M_shas_filled⟩ := T.m_Shelf_has_filled
 have Gau : aG P w K mg base CX0 3 fau dau cC (jD C) := gW T Aau.F
 obtain ⟨fbf, dbf, Abf, M_House⟩ := T.i_House
 have Gbf : aG P w K mg base CX0 7 fbf dbf iD (Fe C) := oK T Abf.F
 obtain ⟨fbk, dbk, Abk, M_Shelf⟩ := T.i_Shelf
 have Gbk : aG P w K mg base CX0 3 fbk dbk iH (Bh C) := oJ T Abk.F
 refine F.oq jh fun _ _ _ _ H _ Q E hr h => ?_
 ·obtain ⟨S, ns, rfl, hS, hlen, q⟩ := h
  have hr1 : aR 1 _ := hr.mono Z0
  have hr2 : aR 2 _ := hr.mono Z0
  have hr3 : aR 3 _ := hr.mono Z0
  have hr7 : aR 7 _ := hr.mono Z0
  have hr8 : aR 8 _ := hr.mono Z0
  have hr15 : aR 15 _ := hr
  have hr4 : aR 4 _ := hr.mono Z0
  refine ⟨_, QSs.h (aq (aO (i := 1) jh.nd rfl (Or.inl rfl) (bj Aa9 Ga9 hr2 (aj (bj Aav Gav hr1 (aj (pv 0) (aj aB au))) (aj aB au))))
   (aq (aO (i := 2) jh.nd rfl (Or.inl rfl) (b8 au))
   (aq (dj PassesOwn.never rfl (gj Z3 T.range (aj aB au)) (aJ (i := 3) jh.nd rfl (Or.inr rfl))
   (aq (mX (N := ["_law_j", "_law_script", "_law_k"]) [none, some 0, some 3] (i := 4) jh.nd rfl (Or.inl rfl) rfl Z5 (gj Z3 T.range (aj (bf (CG rfl) Z3 T.max PyProof.Rows.boot_max (aj aB (aj (bf (CN rfl) Z3 T.min PyProof.Rows.boot_min (aj aB (aj (aP pD (aP pD (bf bJ Z3 T.len boot_len (aj (pv 0) au)) aB) (aP fM aB (pv 3))) au))) au))) au)) (fun cl C fp s H => (aJ (i := 0) (by decide +kernel : (["_law_j", "_law_script", "_law_k"] : List Str).Nodup) rfl (Or.inl rfl))) (fun cl C fp s H => jL) (fun cl C fp s H => (bj Aav Gav hr1 (aj (pv 1) (aj (aP cI (aP cI aB (aP fM aB (pv 2))) (pv 0)) au)))))
   (aq (nW (bj Aba Gba hr8 (aj (pv 4) (aj (gP mK (pv 1) (jw (pv 3)) ju) (aj (bA bC (pv 1) (aP pD aB (pv 3))) au)))) (dH (K := K) (n := 2) rfl rfl (aV (aJ (i := 5) jh.nd rfl (Or.inl rfl)) (aV (aJ (i := 6) jh.nd rfl (Or.inl rfl)) du))))
   (aq (aO (i := 7) jh.nd rfl (Or.inl rfl) (b8 (aj (pv 5) au)))
   (aq (bh (eQ plainAttrs_list PySem.F.slot_list_append PySem.F.type_list_append bH (pv 2) (aj (bD (aj (rJ M_Shelf Abk.b Gbk hr4 T.c_Shelf (aj (rJ M_House Abf.b Gbf hr8 T.c_House (aj (pv 7) au)) au)) (aj (bA bC (pv 1) (aP pD aB (pv 3))) (aj (pv 6) au)))) au)))
   (aC (bh (Am plainAttrs_list PySem.F.slot_list_clear PySem.F.type_list_clear Gb (pv 7)))))))))
   (aq (dj PassesOwn.never rfl (bO (pv 2)) (dH (K := K) (n := 3) rfl rfl (aV (aJ (i := 8) jh.nd rfl (Or.inl rfl)) (aV (aJ (i := 9) jh.nd rfl (Or.inr rfl)) (aV (aJ (i := 6) jh.nd rfl (Or.inl rfl)) du))))
   (aq (bz (PW.pt (tW (aK (Fp (K := K) rfl hr.units) (iY (pv 8) T.sh.cl.cl M_sfilled Gan hr2 Aan.b .nil bG) (b8 au) (aN _)) (tL (aK Im (bx (pv 8) T.sh.cl.cl M_shas_filled Gau hr3 Aau.b .nil bG (aj (pv 9) au)) oZ (aN _))))) (aC (aM oZ)) aU)
   (aq (aO (i := 10) jh.nd rfl (Or.inl rfl) (bx (pv 8) T.sh.cl.cl M_sdraw Ga2 hr15 Aa2.b .nil bG (aj (pv 9) au)))
   (aq (bz (PW.pt (tW (uv (fY (bf gb Z3 T.inst boot_isinstance (aj (pv 10) (aj (jY (v := .ty "list") Z3 T.t_list boot_list rfl) au))))) (tW (aK (rA (K := K) rfl hr.units) (gP mK (pv 10) ju (jw aB)) (b8 (aj (bD (aj aL (aj (pv 9) au))) au)) (aN _)) (tL (aK (rA (K := K) rfl hr.units) (gP mK (pv 10) (jw (By vW aB)) ju) (b8 (aj (bD (aj aL (aj (pv 9) au))) au)) (aN _)))))) (aC (aM oZ)) aU)
   (aq (mX (N := ["_law_event"]) [none] (i := 11) jh.nd rfl (Or.inl rfl) rfl Z5 (bO (pv 10)) (fun cl C fp s H => (aJ (i := 0) (by decide +kernel : (["_law_event"] : List Str).Nodup) rfl (Or.inl rfl))) (fun cl C fp s H => (wH (aK cN (bA (Ik (K := K) rfl) (pv 0) aB) aL (aN _)))) (fun cl C fp s H => (gP (HF (K := K) rfl) (pv 0) (jw aB) ju)))
   (aC (bz (aK (rA (K := K) rfl hr.units) (pv 11) (kJ (N := ["_law_at", "_law_address"]) [none, some 9] rfl Z5 (gj Z3 T.range (aj (bf bJ Z3 T.len boot_len (aj (aW (bx (aW (pv 8) rfl) T.hs.cl.cl M_hpart Gae hr3 Aae.b .nil bG (aj (pv 9) au)) rfl) au)) au)) (fun cl C fp s H => (aJ (i := 0) (by decide +kernel : (["_law_at", "_law_address"] : List Str).Nodup) rfl (Or.inl rfl))) (fun cl C fp s H => jL) (fun cl C fp s H => (bD (aj (pv 1) (aj (pv 0) au))))) (aN _)) (aC (aM oZ)) aU)))))))
   (aq (dj PassesOwn.never rfl (bO (aP JM (pv 2) (pv 2))) (dH (K := K) (n := 3) rfl rfl (aV (aJ (i := 8) jh.nd rfl (Or.inl rfl)) (aV (aJ (i := 9) jh.nd rfl (Or.inr rfl)) (aV (aJ (i := 6) jh.nd rfl (Or.inl rfl)) du))))
   (aC (bz (PW.pt (tW (uv (fY (bj Aa5 Ga5 hr7 (aj (pv 8) (aj (pv 9) (aj (pv 6) au)))))) (tL (aK (rA (K := K) rfl hr.units) (bx (pv 8) T.sh.cl.cl M_sdraw Ga2 hr15 Aa2.b .nil bG (aj (pv 9) au)) (b8 (aj (bD (aj aL (aj (pv 9) au))) au)) (aN _))))) (aC (aM oZ)) aU)))
   (aC (aM oZ))))))), ?_⟩
  refine ⟨_, rfl, S, ns, 0, rfl, hS, Z0, fun H1 s1 => ⟨_, rfl, fun nl H2 zs hnl s2 zl znd znm hz => ?_⟩⟩
  have s02 := s1.trans s2
  refine ⟨zero_le _, fun sl hsl => ?_⟩
  have s3 : az H2 (upd H2 sl (.lst [])) := az.new hsl
  have e3 : upd H2 sl (.lst []) sl = some (.lst []) := ao
  generalize upd H2 sl (.lst []) = H3 at s3 e3 ⊢
  have i0 : L1 C H2 H3 sl [] [] H2 := ⟨az.refl _, hsl, ⟨s3, (fun i a h => by cases h), (fun i j a b _ h => by cases h)⟩, e3, rfl, (fun i a h => by cases h), (fun c h => by cases h), fun c h => by cases h⟩
  refine ⟨_, rfl, Z0, Z0, ?_⟩
  refine n8 (fun i σ H' => ∃ v3 v4 v5 v6 v7 L tps B, σ = [some (.ref S), some (.ref nl), some (.ref sl), v3, v4, v5, v6, v7, none, none, none, none] /\ L1 C H2 H' sl L tps B /\ L.length = i) ⟨none, none, none, none, none, [], [], H2, rfl, i0, rfl⟩ ?_ ?_
  ·rintro i σ H4 hi ⟨v3, v4, v5, v6, v7, L, tps, B, rfl, l1, ll⟩
   have hi2 : i < 2 := hi
   have s24 : az H2 H4 := l1.hb.trans l1.ls.s
   have hS4 := (s02.trans s24).seq hS
   have hz4 := s24 _ _ hz
   refine ⟨_, rfl, S, _, rfl, .inl hS4, _, _, rfl, rfl, _, rfl, _, _, rfl, rfl, .inl ⟨Z0, Z0⟩, _, _, rfl, rfl, _, _, rfl, _, _, rfl, ?_⟩
   obtain ⟨n, en, n1, n12⟩ := clamp ((((ns.map V.int).length : Nat) : Int) - 2 - 12 * (0 + (i : Int)))
   refine ⟨n, congrArg (fun z => [V.int z]) en, Z1, Z1, lH (fun i v H' => ∃ c : Int, v = V.int c) (fun i v H' H'' h _ => h) (le_trans (show n.toNat <= 12 by omega) Z0) (fun j H' Q' hj sm k' => ?_) (fun xs H5 s5 hl hx lc hlc => ?_)⟩
   ·exact ⟨_, rfl, _, rfl, _, _, rfl, rfl, .inl ⟨Z0, Z0⟩, _, _, rfl, rfl, _, rfl, _, _, rfl, rfl, S, ns, _, rfl, sm.seq hS4, Z1, fun H6 s6 => k' _ H6 s6 ⟨_, rfl⟩⟩
   obtain ⟨cs, rfl⟩ := Gi hx
   rw [length_map] at hl
   have c12 : cs.length <= 12 := by omega
   have s6 : az H4 (upd H5 lc (.lst (cs.map V.int))) := s5.trans (az.new hlc)
   have e6 : upd H5 lc (.lst (cs.map V.int)) lc = some (.lst (cs.map V.int)) := ao
   generalize upd H5 lc (.lst (cs.map V.int)) = H6 at s6 e6 ⊢
   have hz6 := s6 _ _ hz4
   have ai : 25 - i < zs.length := by omega
   have adt : atI (zs.map V.str) (25 - (0 + (i : Int))) = some (.str zs[25 - i]) := by
    rw [show (25 : Int) - (0 + (i : Int)) = ((25 - i : Nat) : Int) by omega]
    exact aZ (by rw [getElem?_map, getElem?_eq_getElem ai]; rfl)
   have na : eZ zs[25 - i] := znm _ (getElem_mem ai)
   generalize zs[25 - i] = ad at adt na
   have ec : gU (zs.map V.str) (some (0 + (i : Int))) none = (zs.drop i).map V.str := by
    rw [zero_add, FT, List.map_drop]
   refine ⟨_, rfl, _, rfl, _, rfl, _, rfl, nl, _, rfl, SqL.of hz6, fun ln hln => ?_⟩
   rw [ec]
   have s7 : az H6 (upd H6 ln (.lst ((zs.drop i).map V.str))) := az.new hln
   have e7 : upd H6 ln (.lst ((zs.drop i).map V.str)) ln = some (.lst ((zs.drop i).map V.str)) := ao
   generalize upd H6 ln (.lst ((zs.drop i).map V.str)) = H7 at s7 e7 ⊢
   replace l1 := (l1.go s6).go s7
   refine ⟨_, rfl, _, rfl, _, _, rfl, rfl, nl, _, _, _, rfl, rfl, SqL.of (s7 _ _ hz6), adt, ?_⟩
   refine ⟨lc, ln, cs, zs.drop i, ad, rfl, s7 _ _ e6, c12, e7, by rw [length_drop]; omega, List.Pairwise.sublist (List.drop_sublist i zs) znd, fun z hz => znm z (List.mem_of_mem_drop hz), na, fun tt p lr ld as rs H8 s8 htt pa grs rok hld pr => ?_⟩
   refine ⟨tt, _, rfl, SqT.of htt, rfl, _, _, rfl, _, _, rfl, rfl, ?_⟩
   refine ⟨_, rfl, by show 1 <= sizeLine; decide, fun lp hlp => ?_⟩
   have s9 : az H8 (upd H8 lp (.lst [.ref p])) := az.new hlp
   have e9 : upd H8 lp (.lst [.ref p]) lp = some (.lst [.ref p]) := ao
   generalize upd H8 lp (.lst [.ref p]) = H9 at s9 e9 ⊢
   have hz9 := s9 _ _ (s8 _ _ (s7 _ _ hz6))
   have hok := G8 na grs
   have g9 := (l1.go s8).go s9
   refine ⟨_, rfl, .inl ⟨rfl, _, SqL.of g9.gsl⟩, _, rfl, fun hA hdx0 hh0 hdx hne => ⟨hA, hdx0, lp, [⟨[ad], rs⟩], [.ref p], rfl, ao, bQ hh0 hdx _ _ e9, ⟨rfl, fun j pd hj => ?_⟩, hok, fun lt H10 hlt sb hhd hltl => ⟨rfl, ?_⟩⟩⟩
   ·cases j with
    | zero => cases hj; exact ⟨p, lr, rfl, by show gO C _ p (dotted [ad]) lr rs; rw [dF]; exact (((pa.same qy).same s9).same (bQ hh0 hdx))⟩
    | succ j => cases hj
   have s10 : az H9 H10 := fun b o e => sb b o (bQ hh0 hdx b o e) (ak e hh0)
   have lt9 : H9 lt = none := (bQ hh0 hdx).free hlt
   clear sb
   intro x dx hx hdx2 hne2
   refine ⟨x, dx, hA, rfl, ao, fun f d dr H11 edh sb sh em hdr f0 dr0 en0 drne => ⟨rfl, ?_⟩⟩
   have s11 : az H10 H11 := fun b o e => sb b o (bQ hx hdx2 b o e) (ak e hx)
   have un : ∀ {b}, upd (upd H10 dx (.own x)) x (.ins (C 10) dx []) b = none -> H10 b = none := fun e => (bQ hx hdx2).free e
   have hz11 := s11 _ _ (s10 _ _ hz9)
   refine ⟨_, rfl, _, rfl, _, _, rfl, rfl, nl, _, _, _, rfl, rfl, SqL.of hz11, adt, _, rfl, by show 3 <= sizeLine; decide, fun tp htp => ?_⟩
   have s12 : az H11 (upd H11 tp (.tup [.ref x, .str ad, .ref ld])) := az.new htp
   have e12 : upd H11 tp (.tup [.ref x, .str ad, .ref ld]) tp = some (.tup [.ref x, .str ad, .ref ld]) := ao
   generalize upd H11 tp (.tup [.ref x, .str ad, .ref ld]) = H12 at s12 e12 ⊢
   have s810 := s9.trans s10
   have s1012 := s11.trans s12
   have s812 := s810.trans s1012
   have sl12 := s812 _ _ (l1.go s8).gsl
   have lp12 := s1012 _ _ (s10 _ _ e9)
   have e9' := s10 _ _ e9
   have xlt := s1012 _ _ hltl
   refine ⟨sl, tps, _, rfl, rfl, sl12, lt_of_lt_of_le (show tps.length < 1000 by rw [l1.tl]; omega) Z0, ?_⟩
   have nslp : sl ≠ lp := ak (l1.go s8).gsl hlp
   have lp13 : upd H12 sl (.lst (tps ++ [.ref tp])) lp = some (.lst [.ref p]) := by rw [aA nslp.symm]; exact lp12
   refine ⟨_, rfl, .inl ⟨rfl, _, SqL.of lp13⟩, lp, _, rfl, rfl, lp13, ?_⟩
   obtain ⟨B', l2⟩ := l1.add (a := ⟨x, hA, f, dr, ld, tp, d, ad, rs, as, [], false⟩) s8 s812 hlp lp12 (s810.free hx) (s810.free (un dr0)) (sh.same s12) (s12 _ _ hdr) rfl rfl edh (ak e9' (un dr0)).symm (hhd.same s1012) (s9.free hh0) xlt (s9.free lt9) (ak e9 lt9).symm (ak hltl (un dr0)) (by
    obtain ⟨_, _, e, _⟩ := hhd
    exact ak e hx) pa hok rok na (em.same s12) (s810.free (un f0)) (s810.free (un en0)) (ak e9' (un en0)).symm drne.symm hld pr e12
   exact ⟨_, _, _, _, _, _, _, _, rfl, l2, by rw [length_append, ll]; rfl⟩
  ·rintro σ H4 ⟨v3, v4, v5, v6, v7, L, tps, B, rfl, l1, ll⟩
   have l2 := l1.l2 ll
   have em := l1.em
   clear l1 i0 e3 s3 hsl
   generalize upd B sl (.lst tps) = B2 at l2
   refine ⟨_, rfl, sl, rfl, ⟨_, SqL.of (l2.ls.s _ _ l2.sl)⟩, ?_⟩
   refine cY (xs := tps) (fun i σ H' => ∃ v3 v4 v5 v6 v7 v8 v9 v10 v11 L B, σ = [some (.ref S), some (.ref nl), some (.ref sl), v3, v4, v5, v6, v7, v8, v9, v10, v11] /\ L2s C H' sl L tps B /\ ∀ (j : Nat) a, L[j]? = some a -> a.full = decide (j < i) /\ a.xs.length <= i) ⟨v3, v4, v5, v6, v7, none, none, none, none, L, B2, rfl, l2, fun j a h => ?_⟩ (fun i σ H' hi hv => ?_) (fun i x σ H' hx hv => ?_) (fun σ H' hv => ?_)
   ·obtain ⟨e1, e2⟩ := em a (mem_of_getElem? h)
    exact ⟨by rw [e1]; rfl, by rw [e2]; exact le_refl _⟩
   ·obtain ⟨_, _, _, _, _, _, _, _, _, _, _, _, x, _⟩ := hv
    exact SqL.of (x.ls.s _ _ x.sl)
   ·obtain ⟨v3, v4, v5, v6, v7, v8, v9, v10, v11, L, B, rfl, l2, ful⟩ := hv
    have hi : i < L.length := by rw [l2.ll, <- l2.tl]; exact (List.getElem?_eq_some_iff.mp hx).1
    have hLi := getElem?_eq_getElem hi
    generalize L[i] = a at hLi
    obtain rfl : x = .ref a.tp := by have := l2.ta i a hLi; rw [hx] at this; exact Option.some.inj this
    obtain ⟨af, axl⟩ := ful i a hLi
    rw [decide_eq_false (lt_irrefl i)] at af
    have i2 := l2.ll
    have A := l2.ls.at1 i a hLi
    refine ⟨a.tp, _, rfl, SqT.of (l2.ls.s _ _ A.tp), rfl, _, _, rfl, _, _, rfl, _, _, rfl, rfl, ?_⟩
    have em0 := (A.fe af).same l2.ls.s
    obtain ⟨dx, fs, hs, sf⟩ := A.sh
    refine ⟨_, rfl, a.s, dx, fs, rfl, hs, sf.me _ Z4, a.s, a.h, a.f, a.dr, a.d, [], rfl, A.sh, em0.fl, em0.en, fun l5 hl5 => ⟨zero_le _, fun l6 hl6 => ?_⟩⟩
    have s6 : az H' (upd (upd H' l5 (.lst [])) l6 (.lst [])) := (az.new hl5).trans (az.new hl6)
    refine ⟨l5, l6, [], rfl, rfl, SqL.of ((az.new hl6) _ _ ao), SqL.of ao, _, rfl, cj rfl ?_⟩
    generalize upd (upd H' l5 (.lst [])) l6 (.lst []) = H6 at s6 ⊢
    replace l2 := l2.go s6
    replace hs := s6 _ _ hs
    replace em0 := em0.same s6
    have A := l2.ls.at1 i a hLi
    refine ⟨_, rfl, a.s, dx, fs, rfl, hs, sf.me _ Z4, _, rfl, a.s, a.h, a.f, a.dr, a.d, a.ad, rfl, A.sh, em0.fl, .inl ⟨em0.en, fun H7 s7 => ⟨_, _, rfl, rfl, _, rfl, cj rfl ?_⟩⟩⟩
    replace l2 := l2.go s7
    replace hs := s7 _ _ hs
    have A := l2.ls.at1 i a hLi
    obtain ⟨lh, hh⟩ := A.ho
    refine ⟨_, rfl, a.s, dx, fs, rfl, hs, sf.me _ Z4, _, rfl, B, a.s, a.h, a.f, a.dr, a.d, a.ad, a.rs, lh, a.xs, rfl, A.na, hh, A.hok, A.ok, l2.ls.s, A.bs, A.bd, A.eh, A.sh, A.hd, Z1, .inl ⟨A.fe af, fun f2 d2 lg ys H8 dn fu hlg hlg8 lo => ?_⟩⟩
    obtain ⟨B', v, _, l3⟩ := l2.draw hLi dn fu
    have ful' : ∀ (j : Nat) c, (L.set i { a with f := f2, d := d2, xs := a.xs ++ [v], full := true })[j]? = some c -> c.full = decide (j < i + 1) /\ c.xs.length <= i + 1 := fun j c hj => by
     by_cases e : i = j
     ·subst e
      rw [getElem?_set_self hi] at hj
      cases hj
      exact ⟨by rw [decide_eq_true (lt_succ_self i)], by rw [length_append]; exact Nat.add_le_add_right axl 1⟩
     ·rw [getElem?_set_ne e] at hj
      obtain ⟨k1, k2⟩ := ful j c hj
      exact ⟨by rw [k1]; exact decide_eq_decide.mpr ⟨fun h => by omega, fun h => by omega⟩, Z1⟩
    have A3 := l3.ls.at1 i _ (getElem?_set_self hi)
    have nlg : ∀ {Hx}, az H8 Hx -> Hx lg = some (.lst ys) := fun s => s _ _ hlg8
    obtain ⟨ms, t0, t1, rfl, ht0, ht1, evs, ml⟩ := lo
    refine ⟨_, rfl, _, _, _, _, rfl, .lst hlg8, lU, _, rfl, iR ?_⟩
    refine ⟨_, rfl, _, rfl, lg, _, rfl, SqL.of hlg8, fun w hw => ?_⟩
    rw [show gU (V.ref t0 :: ms ++ [.ref t1]) none (some 1) = [.ref t0] from uG _ 1]
    have s9 : az H8 (upd H8 w (.lst [.ref t0])) := az.new hw
    have e9 : upd H8 w (.lst [.ref t0]) w = some (.lst [.ref t0]) := ao
    generalize upd H8 w (.lst [.ref t0]) = H9 at s9 e9 ⊢
    refine ⟨_, rfl, by show 2 <= sizeLine; decide, fun tb htb => ⟨by show 1 <= sizeLine; decide, fun lb hlb => ?_⟩⟩
    have s10 : az H9 (upd (upd H9 tb (.tup [.str "begin", .str a.ad])) lb (.lst [.ref tb])) := (az.new htb).trans (az.new hlb)
    have e10 : upd (upd H9 tb (.tup [.str "begin", .str a.ad])) lb (.lst [.ref tb]) lb = some (.lst [.ref tb]) := ao
    have f10 : upd (upd H9 tb (.tup [.str "begin", .str a.ad])) lb (.lst [.ref tb]) tb = some (.tup [.str "begin", .str a.ad]) := (az.new hlb) _ _ ao
    generalize upd (upd H9 tb (.tup [.str "begin", .str a.ad])) lb (.lst [.ref tb]) = H10 at s10 e10 f10 ⊢
    have s810 := s9.trans s10
    refine ⟨w, lb, rfl, rfl, zK (s10 _ _ e9) e10 (s810 _ _ ht0) f10 uo, _, rfl, iR ?_⟩
    refine ⟨_, rfl, _, rfl, _, rfl, lg, _, rfl, SqL.of (s810 _ _ hlg8), fun w2 hw2 => ?_⟩
    rw [show gU (V.ref t0 :: ms ++ [.ref t1]) (some (-1)) none = [.ref t1] from Eu (V.ref t0 :: ms) (.ref t1)]
    have s11 : az H10 (upd H10 w2 (.lst [.ref t1])) := az.new hw2
    have e11 : upd H10 w2 (.lst [.ref t1]) w2 = some (.lst [.ref t1]) := ao
    generalize upd H10 w2 (.lst [.ref t1]) = H11 at s11 e11 ⊢
    refine ⟨_, rfl, by show 2 <= sizeLine; decide, fun te hte => ⟨by show 1 <= sizeLine; decide, fun le hle => ?_⟩⟩
    have s12 : az H11 (upd (upd H11 te (.tup [.str "end", .str a.ad])) le (.lst [.ref te])) := (az.new hte).trans (az.new hle)
    have e12 : upd (upd H11 te (.tup [.str "end", .str a.ad])) le (.lst [.ref te]) le = some (.lst [.ref te]) := ao
    have f12 : upd (upd H11 te (.tup [.str "end", .str a.ad])) le (.lst [.ref te]) te = some (.tup [.str "end", .str a.ad]) := (az.new hle) _ _ ao
    generalize upd (upd H11 te (.tup [.str "end", .str a.ad])) le (.lst [.ref te]) = H12 at s12 e12 f12 ⊢
    have s812 := s810.trans (s11.trans s12)
    refine ⟨w2, le, rfl, rfl, zK (s12 _ _ e11) e12 (s812 _ _ ht1) f12 uo, _, rfl, iR ?_⟩
    obtain ⟨ks, kl, kv, kr⟩ := evs
    have yl : (V.ref t0 :: ms ++ [V.ref t1]).length <= sizeLine := le_trans (show (V.ref t0 :: ms ++ [V.ref t1]).length <= 3000 by rw [length_append, length_cons, length_singleton]; omega) Z0
    generalize V.ref t0 :: ms ++ [V.ref t1] = ys at hlg8 kl kv yl
    have hlg12 := s812 _ _ hlg8
    refine ⟨_, rfl, lg, rfl, ⟨_, SqL.of hlg12⟩, zY (fun i zs H' => PlI H' a.ad ks i zs) yl (SqL.of hlg12) ⟨rfl, fun m v e => by cases e⟩ (fun i zs H' h => h.le) (fun j x zs H' Q' hx sm iv k0 k1 => ?_) (fun zs H13 s13 pl lq hlq => ?_)⟩
    ·obtain ⟨k, ek, ok⟩ := kv j x hx
     have s8' := s812.trans sm
     cases k with
     | none =>
      obtain ⟨t, kk, zz, rfl, ht, hk⟩ := ok
      refine ⟨_, rfl, t, _, _, _, rfl, rfl, SqT.of (s8' _ _ ht), aZ (j := 0) rfl, rfl, _, rfl, ?_⟩
      rw [decide_eq_false fun z => hk (V.str.inj z)]
      exact k0 H' sm (iv.no ek)
     | some r =>
      obtain ⟨t, rfl, ht⟩ := ok
      refine ⟨_, rfl, t, _, _, _, rfl, rfl, SqT.of (s8' _ _ ht), aZ (j := 0) rfl, rfl, _, rfl, ?_⟩
      rw [decide_eq_true rfl]
      refine k1 H' fun Q2 k2 => ⟨_, rfl, _, rfl, t, _, rfl, SqT.of (s8' _ _ ht), (by show ¬ (HT.sIx 3 0 (some 1) = 0 /\ HT.sIx 3 3 none = 3); decide), fun p hp => ?_⟩
      exact k2 _ _ (sm.put hp) ((iv.same (az.new hp)).yes ek ao)
    ·have s14 : az H8 (upd H13 lq (.lst zs)) := (s812.trans s13).trans (az.new hlq)
     have e14 : upd H13 lq (.lst zs) lq = some (.lst zs) := ao
     replace pl := pl.same (az.new hlq (o := .lst zs))
     generalize upd H13 lq (.lst zs) = H14 at s14 e14 pl ⊢
     unfold PlI at pl
     rw [<- kl, take_length, kr, length_range] at pl
     obtain ⟨dx3, fs3, hs3, sf3⟩ := A3.sh
     obtain ⟨lh3, hh3⟩ := A3.ho
     have b14 := l3.ls.s.trans s14
     obtain ⟨dh, fh, eh, _, _, _, a4, _⟩ := id hh3
     refine ⟨_, rfl, _, rfl, rdF (s14 _ _ hs3) T.sh.cl.cl T.sh.nh sf3.h ⟨a.h, dh, fh, rfl, b14 _ _ eh, a4, _, rfl, B', a.h, lh3, _, a.ad, rfl, hh3, b14, wX, fun j p pA lr H15 s15 hp hd pt => ?_⟩⟩
     obtain rfl := Ai hp
     obtain ⟨dp, fp, ep, _, c2, _, _, _, xr, hxr, hxl, _⟩ := pt
     have b15 := b14.trans s15
     refine rdF (b15 _ _ ep) T.pt.cl.cl T.pt.nr c2 ⟨lr, _, rfl, .inl (SqL.of (b15 _ _ hxr)), ?_⟩
     replace hxl : xr.length = a.rs.length := hxl
     rw [hxl]
     have r12 : a.rs.length <= 12 := (A3.hok.at (i := 0) rfl).rs.hi
     refine ⟨_, rfl, Z1, Z1, lH (fun i v H' => ∃ t, v = V.ref t /\ H' t = some (.tup [.str a.ad, .int (i : Nat)])) (fun i v H' H'' ⟨t, e1, e2⟩ s => ⟨t, e1, s _ _ e2⟩) (le_trans (show ((a.rs.length : Nat) : Int).toNat <= 12 by omega) Z0) (fun j H' Q' hj sm k' => ?_) (fun xs H16 s16 hl hx lz hlz => ?_)⟩
     ·refine ⟨_, rfl, _, rfl, by show 2 <= sizeLine; decide, fun t ht => k' _ _ (az.new ht) ⟨t, rfl, ?_⟩⟩
      rw [zero_add]
      exact ao
     ·have hl' : xs.length = a.rs.length := by
       have : xs.length = ((a.rs.length : Nat) : Int).toNat := hl
       omega
      have s17 : az H15 (upd H16 lz (.lst xs)) := s16.trans (az.new hlz)
      have e17 : upd H16 lz (.lst xs) lz = some (.lst xs) := ao
      have x17 := az.new hlz (o := .lst xs)
      generalize upd H16 lz (.lst xs) = H17 at s17 e17 x17 ⊢
      have s1417 := s15.trans s17
      refine ⟨lq, lz, rfl, rfl, ⟨1, zs, xs, Z0, by rw [pl.1, hl'], .inr ⟨SqL.of (s1417 _ _ e14), SqL.of e17⟩, fun j x y ex ey => ?_⟩, _, rfl, iR ?_⟩
      ·obtain ⟨t, k, rfl, ek, ht⟩ := pl.2 j x ex
       obtain ⟨t', rfl, ht'⟩ := hx j y ey
       have hj : j < a.rs.length := by rw [<- hl']; exact (List.getElem?_eq_some_iff.mp ey).1
       rw [List.getElem?_range hj] at ek
       cases ek
       refine .tup (SqT.of (s1417 _ _ ht)) (SqT.of (x17 _ _ ht')) rfl (ym fun z hz => ?_)
       simp only [mem_cons, not_mem_nil, or_false] at hz
       rcases hz with rfl | rfl
       ·exact .inl ⟨_, rfl⟩
       ·exact .inr ⟨_, rfl⟩
      ·exact ⟨_, _, _, _, _, _, _, _, _, _, _, rfl, l3.go (s14.trans s1417), ful'⟩
   ·obtain ⟨v3, v4, v5, v6, v7, v8, v9, v10, v11, L, B, rfl, l2, ful⟩ := hv
    rw [l2.tl] at ful
    have hsl := l2.ls.s _ _ l2.sl
    refine ⟨_, rfl, _, rfl, sl, sl, tps, tps, rfl, rfl, hsl, hsl, le_trans (show tps.length + tps.length <= 4 by rw [l2.tl]; decide) Z0, fun l4 hl4 => ?_⟩
    have s5 : az H' (upd H' l4 (.lst (tps ++ tps))) := az.new hl4
    have e5 : upd H' l4 (.lst (tps ++ tps)) l4 = some (.lst (tps ++ tps)) := ao
    generalize upd H' l4 (.lst (tps ++ tps)) = H5 at s5 e5 ⊢
    have b4 : B l4 = none := l2.ls.s.free hl4
    have n4 : ∀ c ∈ L, c.s ≠ l4 /\ c.dr ≠ l4 := fun c hc => by
     obtain ⟨j, hj, e⟩ := getElem_of_mem hc
     have y := l2.ls.at1 j c (by rw [getElem?_eq_getElem hj, e])
     obtain ⟨_, _, k, _⟩ := y.sh
     exact ⟨ak k hl4, ak y.hd hl4⟩
    replace l2 := (l2.go s5).put b4 e5 n4
    have b5 : upd B l4 (.lst (tps ++ tps)) l4 = some (.lst (tps ++ tps)) := ao
    generalize upd B l4 (.lst (tps ++ tps)) = B5 at l2 b5
    have tl := l2.tl
    refine ⟨l4, rfl, ⟨_, SqL.of e5⟩, ?_⟩
    refine cY (xs := tps ++ tps) (fun i σ H' => ∃ v3 v4 v5 v6 v7 v8 v9 v10 v11 L B, σ = [some (.ref S), some (.ref nl), some (.ref sl), v3, v4, v5, v6, v7, v8, v9, v10, v11] /\ L2s C H' sl L tps B /\ B l4 = some (.lst (tps ++ tps)) /\ ∀ (j : Nat) a, L[j]? = some a -> a.full = true /\ a.xs.length <= 2 + i) ⟨v3, v4, v5, v6, v7, v8, v9, v10, v11, L, B5, rfl, l2, b5, fun j a h => ?_⟩ (fun i σ H' hi hv => ?_) (fun i x σ H' hx hv => ?_) (fun σ H' hv => ?_)
    ·obtain ⟨e1, e2⟩ := ful j a h
     exact ⟨by rw [e1]; exact decide_eq_true (by have := (List.getElem?_eq_some_iff.mp h).1; rw [l2.ll] at this; exact this), e2⟩
    ·obtain ⟨_, _, _, _, _, _, _, _, _, _, _, _, x, x4, _⟩ := hv
     exact SqL.of (x.ls.s _ _ x4)
    ·clear l2 ful b5 n4 b4 hsl
     obtain ⟨v3, v4, v5, v6, v7, v8, v9, v10, v11, L, B, rfl, l2, b4, ful⟩ := hv
     have hi4 : i < 4 := by
      have := (List.getElem?_eq_some_iff.mp hx).1
      rw [length_append, tl] at this
      exact this
     obtain ⟨j, hj, ej⟩ : ∃ j, j < 2 /\ tps[j]? = some x := by
      have hm : x ∈ tps := (mem_append.mp (mem_of_getElem? hx)).elim id id
      obtain ⟨j, hj, e⟩ := getElem_of_mem hm
      exact ⟨j, by rw [tl] at hj; exact hj, by rw [getElem?_eq_getElem hj, e]⟩
     have hi : j < L.length := by rw [l2.ll]; exact hj
     have hLi := getElem?_eq_getElem hi
     generalize L[j] = a at hLi
     obtain rfl : x = .ref a.tp := by have := l2.ta j a hLi; rw [ej] at this; exact Option.some.inj this
     obtain ⟨af, axl⟩ := ful j a hLi
     have A := l2.ls.at1 j a hLi
     refine ⟨a.tp, _, rfl, SqT.of (l2.ls.s _ _ A.tp), rfl, _, _, rfl, _, _, rfl, _, _, rfl, rfl, ?_⟩
     have nd := A.ok.nd a.rs.length (le_refl _)
     rw [take_length] at nd
     refine ⟨_, rfl, _, rfl, _, rfl, a.s, a.h, a.f, a.dr, a.d, a.ad, bB a.rs, a.ld, a.as, rfl, A.sh, (A.ff af).same l2.ls.s, l2.ls.s _ _ A.hl, A.pr.same l2.ls.s, nd, fun H6 s6 => ⟨_, rfl, iR ?_⟩⟩
     replace l2 := l2.go s6
     have A := l2.ls.at1 j a hLi
     obtain ⟨dx, fs, hs, sf⟩ := A.sh
     obtain ⟨lh, hh⟩ := A.ho
     refine ⟨_, rfl, a.s, dx, fs, rfl, hs, sf.me _ Z4, _, rfl, B, a.s, a.h, a.f, a.dr, a.d, a.ad, a.rs, lh, a.xs, rfl, A.na, hh, A.hok, A.ok, l2.ls.s, A.bs, A.bd, A.eh, A.sh, A.hd, Z1, .inr ⟨bB a.rs, A.ff af, fun f2 d2 lg t H8 dn fu hlg hlg8 ht => ?_⟩⟩
     obtain ⟨B', v, sB, l3⟩ := l2.draw hLi dn fu
     refine ⟨_, rfl, by show 2 <= sizeLine; decide, fun tb htb => ⟨by show 1 <= sizeLine; decide, fun lb hlb => ?_⟩⟩
     have s10 : az H8 (upd (upd H8 tb (.tup [.str "there", .str a.ad])) lb (.lst [.ref tb])) := (az.new htb).trans (az.new hlb)
     have e10 : upd (upd H8 tb (.tup [.str "there", .str a.ad])) lb (.lst [.ref tb]) lb = some (.lst [.ref tb]) := ao
     have f10 : upd (upd H8 tb (.tup [.str "there", .str a.ad])) lb (.lst [.ref tb]) tb = some (.tup [.str "there", .str a.ad]) := (az.new hlb) _ _ ao
     generalize upd (upd H8 tb (.tup [.str "there", .str a.ad])) lb (.lst [.ref tb]) = H10 at s10 e10 f10 ⊢
     refine ⟨lg, lb, rfl, rfl, zK (s10 _ _ hlg8) e10 (s10 _ _ ht) f10 uo, _, rfl, iR ?_⟩
     refine ⟨_, _, _, _, _, _, _, _, _, _, _, rfl, l3.go s10, sB _ _ b4, fun k c hk => ?_⟩
     by_cases e : j = k
     ·subst e
      rw [getElem?_set_self hi] at hk
      cases hk
      exact ⟨rfl, by rw [length_append]; exact Nat.add_le_add_right axl 1⟩
     ·rw [getElem?_set_ne e] at hk
      obtain ⟨k1, k2⟩ := ful k c hk
      exact ⟨k1, Z1⟩
    ·exact q H'
end
def FI (K : Frag) (x : Str) (st : Stmt) : Prop := ∃ f fd, nsIn K mainGlobals x = some (some (.ref f)) /\ Fun K x x st f fd
theorem fi {K : Frag} {x : Str} {st : Stmt} {f : Addr} {oc : Value} {od an : Option Addr} {osl : Array (Option Value)} {kV doc pm cdv ct : Value} (a : nsIn K mainGlobals x = some (some (.ref f))) (l : K.lookup f = some ⟨oc, od, .func (fnOf x x (d7 st) (cU st) (aD st) .none kV doc pm an cdv ct), osl⟩) (c : codeIn K cdv x = true) (k : keepIn K (.ref f) = true) : FI K x st := ⟨f, _, a, FQ l c k⟩
def MI (K : Frag) (g : Addr) (x q : Str) (st : Stmt) : Prop := (∃ fd, Fun K x q st g fd) /\ isFn K (.ref g) = true /\ keepIn K (.ref g) = true
theorem mi {K : Frag} {x q : Str} {st : Stmt} {f : Addr} {oc : Value} {od an : Option Addr} {osl : Array (Option Value)} {kV doc pm cdv ct : Value} (l : K.lookup f = some ⟨oc, od, .func (fnOf x q (d7 st) (cU st) (aD st) .none kV doc pm an cdv ct), osl⟩) (c : codeIn K cdv q = true) (k : keepIn K (.ref f) = true) (i : isFn K (.ref f) = true) : MI K f x q st := ⟨⟨_, FQ l c k⟩, i, k⟩
structure CI (K : Frag) (C : Addr) (x : Str) : Prop where
 A : nsIn K mainGlobals x = some (some (.ref C))
 pg : plainGet K C Str.empty = true
 hd : hasDictIn K C = true
 po : plainOver K C = true
 sa : findIn K (.ref C) "__setattr__" = some (some (.builtin "object.__setattr__"))
 mq : makesIn K C = true
 kc : keepIn K (.ref C) = true
 ca : findIn K (.ref C) "__class__" = some (some (.builtin "object.__class__"))
 mo : mroIn K C (.type "object") = some true
 ty : typeIn K (.ref C) = some (.type "type")
 mm : mroIn K C (.ref C) = some true
def BA (x q : Str) (st : Stmt) (ps : List Str) (n : Nat) : Prop := ∀ (kV doc pm : Value) (an : Option Addr) (cdv ct : Value) (us : List Value), us.length = n -> bindArgs (fnOf x q (d7 st) (cU st) (aD st) .none kV doc pm an cdv ct) ⟨us, []⟩ = pure (ps.zip us)
theorem ba1 {x q : Str} {st : Stmt} {ps : List Str} (h : ∀ (kV doc pm : Value) (an : Option Addr) (cdv ct a : Value), bindArgs (fnOf x q (d7 st) (cU st) (aD st) .none kV doc pm an cdv ct) ⟨[a], []⟩ = pure (ps.zip [a]) := by exact fun _ _ _ _ _ _ _ => rfl) : BA x q st ps 1 := fun _ _ _ _ _ _ us hl => by obtain ⟨a, rfl⟩ := Ld hl; exact h ..
theorem ba2 {x q : Str} {st : Stmt} {ps : List Str} (h : ∀ (kV doc pm : Value) (an : Option Addr) (cdv ct a b : Value), bindArgs (fnOf x q (d7 st) (cU st) (aD st) .none kV doc pm an cdv ct) ⟨[a, b], []⟩ = pure (ps.zip [a, b]) := by exact fun _ _ _ _ _ _ _ _ => rfl) : BA x q st ps 2 := fun _ _ _ _ _ _ us hl => by obtain ⟨a, b, rfl⟩ := Lx hl; exact h ..
theorem ba3 {x q : Str} {st : Stmt} {ps : List Str} (h : ∀ (kV doc pm : Value) (an : Option Addr) (cdv ct a b c : Value), bindArgs (fnOf x q (d7 st) (cU st) (aD st) .none kV doc pm an cdv ct) ⟨[a, b, c], []⟩ = pure (ps.zip [a, b, c]) := by exact fun _ _ _ _ _ _ _ _ _ => rfl) : BA x q st ps 3 := fun _ _ _ _ _ _ us hl => by obtain ⟨a, b, c, rfl⟩ := Ly hl; exact h ..
theorem ba4 {x q : Str} {st : Stmt} {ps : List Str} (h : ∀ (kV doc pm : Value) (an : Option Addr) (cdv ct a b c d : Value), bindArgs (fnOf x q (d7 st) (cU st) (aD st) .none kV doc pm an cdv ct) ⟨[a, b, c, d], []⟩ = pure (ps.zip [a, b, c, d]) := by exact fun _ _ _ _ _ _ _ _ _ _ => rfl) : BA x q st ps 4 := fun _ _ _ _ _ _ us hl => by obtain ⟨a, b, c, d, rfl⟩ := Nr hl; exact h ..
theorem fat {K : Frag} {h : Heap} {mg : MG} {x : Str} {st : Stmt} {ps : List Str} (X : K.In h) (G : h.Ns mainGlobals mg) (b : BA x x st ps ps.length) (i : FI K x st) : ∃ f fd, FnAt K mg x st ps f fd := by
 obtain ⟨f, fd, a, F⟩ := i
 exact ⟨f, fd, F, F.binds b, mg_of X G a⟩
theorem cZ {K : Frag} {g : Addr} {x q : Str} {st : Stmt} {ps : List Str} {p : Addr -> Prop} (b : BA x q st ps ps.length) (i : MI K g x q st) (z : isFn K (.ref g) = true -> keepIn K (.ref g) = true -> p g) : ∃ f fd, MAt K x q st ps f fd /\ p f := by
 obtain ⟨⟨fd, F⟩, i1, i2⟩ := i
 exact ⟨g, fd, ⟨F, F.binds b⟩, z i1 i2⟩
theorem Kp {l : OpenLaw} {w : World} {K : Frag} {h : Heap} {mg : MG} {fa g0 g1 g2 g3 g4 g5 g6 g7 g8 g9 g10 g11 g12 g13 g14 g15 g16 g17 g18 g19 g20 g21 g22 g23 g24 g25 g26 g27 g28 g29 g30 g31 g32 g33 g34 g35 g36 g37 g38 g39 g40 C0 C1 C2 C3 C4 C5 C6 C7 C8 C9 C10 : Addr} (X : K.In h) (G : h.Ns mainGlobals mg) (hfa : mg "law" = some (.ref fa))
  {tk0 : Tok}
  (h0 : FI K "is_whole" mH)
  (h1 : FI K "prefixes" mF)
  (h2 : FI K "parent_of" lE)
  (h3 : FI K "show_term" kY)
  (h4 : FI K "show_expr" jX)
  (h5 : FI K "kind_of" ou)
  (h6 : FI K "looked_at" lA)
  (h7 : FI K "path_end" mG)
  (h8 : FI K "term_end" jN)
  (h9 : FI K "come_to" lY)
  (h10 : FI K "call_deed" jQ)
  (h11 : FI K "row_value" kh)
  (h12 : FI K "is_orphan" kj)
  (h13 : FI K "is_clash" mV)
  (h14 : FI K "check_parts" iJ)
  (h15 : FI K "_law_cell" mZ)
  (h16 : FI K "_law_sub" oG)
  (h17 : FI K "_law_number" jr)
  (h18 : FI K "_law_pick" mC)
  (h19 : FI K "_law_names" lB)
  (h20 : FI K "_law_some" nu)
  (h21 : FI K "_law_terms" jR)
  (h22 : FI K "_law_sum" my)
  (h23 : FI K "_law_part" ni)
  (h24 : FI K "_law_tells" jT)
  (h25 : FI K "law" Fv)
  (D0 : CI K C0 "Let")
  (D1 : CI K C1 "Deed")
  (D2 : CI K C2 "Draw")
  (D3 : CI K C3 "Late")
  (D4 : CI K C4 "Take")
  (D5 : CI K C5 "Need")
  (D6 : CI K C6 "Row")
  (D7 : CI K C7 "Part")
  (D8 : CI K C8 "House")
  (D9 : CI K C9 "Filling")
  (D10 : CI K C10 "Shelf")
  (nf0x0 : findIn K (.ref C0) "name" = some none)
  (nf0x1 : findIn K (.ref C0) "terms" = some none)
  (nf0x2 : findIn K (.ref C0) "address" = some none)
  (nf0x3 : findIn K (.ref C0) "word" = some none)
  (mm0x1 : mroIn K C0 (.ref C1) = some false)
  (mm0x2 : mroIn K C0 (.ref C2) = some false)
  (mm0x3 : mroIn K C0 (.ref C3) = some false)
  (mm0x4 : mroIn K C0 (.ref C4) = some false)
  (mm0x5 : mroIn K C0 (.ref C5) = some false)
  (mm0x6 : mroIn K C0 (.ref C6) = some true)
  (nf1x0 : findIn K (.ref C1) "name" = some none)
  (nf1x1 : findIn K (.ref C1) "terms" = some none)
  (nf1x2 : findIn K (.ref C1) "address" = some none)
  (nf1x3 : findIn K (.ref C1) "word" = some none)
  (mm1x0 : mroIn K C1 (.ref C0) = some false)
  (mm1x2 : mroIn K C1 (.ref C2) = some false)
  (mm1x3 : mroIn K C1 (.ref C3) = some false)
  (mm1x4 : mroIn K C1 (.ref C4) = some false)
  (mm1x5 : mroIn K C1 (.ref C5) = some false)
  (mm1x6 : mroIn K C1 (.ref C6) = some true)
  (nf2x0 : findIn K (.ref C2) "name" = some none)
  (nf2x1 : findIn K (.ref C2) "terms" = some none)
  (nf2x2 : findIn K (.ref C2) "address" = some none)
  (nf2x3 : findIn K (.ref C2) "word" = some none)
  (mm2x0 : mroIn K C2 (.ref C0) = some false)
  (mm2x1 : mroIn K C2 (.ref C1) = some false)
  (mm2x3 : mroIn K C2 (.ref C3) = some false)
  (mm2x4 : mroIn K C2 (.ref C4) = some false)
  (mm2x5 : mroIn K C2 (.ref C5) = some false)
  (mm2x6 : mroIn K C2 (.ref C6) = some true)
  (nf3x0 : findIn K (.ref C3) "name" = some none)
  (nf3x1 : findIn K (.ref C3) "terms" = some none)
  (nf3x2 : findIn K (.ref C3) "address" = some none)
  (nf3x3 : findIn K (.ref C3) "word" = some none)
  (mm3x0 : mroIn K C3 (.ref C0) = some false)
  (mm3x1 : mroIn K C3 (.ref C1) = some false)
  (mm3x2 : mroIn K C3 (.ref C2) = some false)
  (mm3x4 : mroIn K C3 (.ref C4) = some false)
  (mm3x5 : mroIn K C3 (.ref C5) = some false)
  (mm3x6 : mroIn K C3 (.ref C6) = some true)
  (nf4x0 : findIn K (.ref C4) "name" = some none)
  (nf4x1 : findIn K (.ref C4) "terms" = some none)
  (nf4x2 : findIn K (.ref C4) "address" = some none)
  (nf4x3 : findIn K (.ref C4) "word" = some none)
  (mm4x0 : mroIn K C4 (.ref C0) = some false)
  (mm4x1 : mroIn K C4 (.ref C1) = some false)
  (mm4x2 : mroIn K C4 (.ref C2) = some false)
  (mm4x3 : mroIn K C4 (.ref C3) = some false)
  (mm4x5 : mroIn K C4 (.ref C5) = some false)
  (mm4x6 : mroIn K C4 (.ref C6) = some true)
  (nf5x0 : findIn K (.ref C5) "name" = some none)
  (nf5x1 : findIn K (.ref C5) "terms" = some none)
  (nf5x2 : findIn K (.ref C5) "address" = some none)
  (nf5x3 : findIn K (.ref C5) "word" = some none)
  (mm5x0 : mroIn K C5 (.ref C0) = some false)
  (mm5x1 : mroIn K C5 (.ref C1) = some false)
  (mm5x2 : mroIn K C5 (.ref C2) = some false)
  (mm5x3 : mroIn K C5 (.ref C3) = some false)
  (mm5x4 : mroIn K C5 (.ref C4) = some false)
  (mm5x6 : mroIn K C5 (.ref C6) = some true)
  (nf6x0 : findIn K (.ref C6) "name" = some none)
  (nf6x1 : findIn K (.ref C6) "terms" = some none)
  (nf6x2 : findIn K (.ref C6) "address" = some none)
  (nf6x3 : findIn K (.ref C6) "word" = some none)
  (mm6x0 : mroIn K C6 (.ref C0) = some false)
  (mm6x1 : mroIn K C6 (.ref C1) = some false)
  (mm6x2 : mroIn K C6 (.ref C2) = some false)
  (mm6x3 : mroIn K C6 (.ref C3) = some false)
  (mm6x4 : mroIn K C6 (.ref C4) = some false)
  (mm6x5 : mroIn K C6 (.ref C5) = some false)
  (nf7x0 : findIn K (.ref C7) "address" = some none)
  (nf7x1 : findIn K (.ref C7) "rows" = some none)
  (nf8x0 : findIn K (.ref C8) "told" = some none)
  (nf9x0 : findIn K (.ref C9) "house" = some none)
  (nf9x1 : findIn K (.ref C9) "held" = some none)
  (nf9x2 : findIn K (.ref C9) "reach" = some none)
  (nf9x3 : findIn K (.ref C9) "ended" = some none)
  (nf9x4 : findIn K (.ref C9) "begun" = some none)
  (nf9x5 : findIn K (.ref C9) "events" = some none)
  (nf10x0 : findIn K (.ref C10) "house" = some none)
  (nf10x1 : findIn K (.ref C10) "stand" = some none)
  (nf10x2 : findIn K (.ref C10) "drawn" = some none)
  (u0x5 : findIn K (.ref C5) "binds" = some (some (.ref g0)))
  (u0x6 : findIn K (.ref C6) "binds" = some (some (.ref g0)))
  (j0 : MI K g0 "binds" "Row.binds" iy)
  (u1x0 : findIn K (.ref C0) "__init__" = some (some (.ref g1)))
  (j1 : MI K g1 "__init__" "Let.__init__" fB)
  (u2x0 : findIn K (.ref C0) "binds" = some (some (.ref g2)))
  (j2 : MI K g2 "binds" "Let.binds" iM)
  (u3x1 : findIn K (.ref C1) "__init__" = some (some (.ref g3)))
  (j3 : MI K g3 "__init__" "Deed.__init__" d8)
  (u4x1 : findIn K (.ref C1) "binds" = some (some (.ref g4)))
  (j4 : MI K g4 "binds" "Deed.binds" gC)
  (u5x2 : findIn K (.ref C2) "__init__" = some (some (.ref g5)))
  (j5 : MI K g5 "__init__" "Draw.__init__" jU)
  (u6x2 : findIn K (.ref C2) "binds" = some (some (.ref g6)))
  (j6 : MI K g6 "binds" "Draw.binds" gQ)
  (u7x3 : findIn K (.ref C3) "__init__" = some (some (.ref g7)))
  (j7 : MI K g7 "__init__" "Late.__init__" lC)
  (u8x3 : findIn K (.ref C3) "binds" = some (some (.ref g8)))
  (j8 : MI K g8 "binds" "Late.binds" gH)
  (u9x4 : findIn K (.ref C4) "__init__" = some (some (.ref g9)))
  (j9 : MI K g9 "__init__" "Take.__init__" lG)
  (u10x4 : findIn K (.ref C4) "binds" = some (some (.ref g10)))
  (j10 : MI K g10 "binds" "Take.binds" gR)
  (u11x5 : findIn K (.ref C5) "__init__" = some (some (.ref g11)))
  (j11 : MI K g11 "__init__" "Need.__init__" dY)
  (u12x9 : findIn K (.ref C9) "__init__" = some (some (.ref g12)))
  (j12 : MI K g12 "__init__" "Filling.__init__" cP)
  (u13x9 : findIn K (.ref C9) "copied" = some (some (.ref g13)))
  (j13 : MI K g13 "copied" "Filling.copied" dC)
  (u14x9 : findIn K (.ref C9) "log" = some (some (.ref g14)))
  (j14 : MI K g14 "log" "Filling.log" fX)
  (u15x9 : findIn K (.ref C9) "filled" = some (some (.ref g15)))
  (j15 : MI K g15 "filled" "Filling.filled" dB)
  (u16x9 : findIn K (.ref C9) "names" = some (some (.ref g16)))
  (j16 : MI K g16 "names" "Filling.names" eG)
  (u17x9 : findIn K (.ref C9) "touched" = some (some (.ref g17)))
  (j17 : MI K g17 "touched" "Filling.touched" cW)
  (u18x9 : findIn K (.ref C9) "trail_now" = some (some (.ref g18)))
  (j18 : MI K g18 "trail_now" "Filling.trail_now" gZ)
  (u19x9 : findIn K (.ref C9) "note" = some (some (.ref g19)))
  (j19 : MI K g19 "note" "Filling.note" eV)
  (u20x9 : findIn K (.ref C9) "touch" = some (some (.ref g20)))
  (j20 : MI K g20 "touch" "Filling.touch" eE)
  (u21x9 : findIn K (.ref C9) "draw_step" = some (some (.ref g21)))
  (j21 : MI K g21 "draw_step" "Filling.draw_step" cH)
  (u22x9 : findIn K (.ref C9) "fill_part" = some (some (.ref g22)))
  (j22 : MI K g22 "fill_part" "Filling.fill_part" cG)
  (u23x9 : findIn K (.ref C9) "read_step" = some (some (.ref g23)))
  (j23 : MI K g23 "read_step" "Filling.read_step" cF)
  (u24x9 : findIn K (.ref C9) "bind" = some (some (.ref g24)))
  (j24 : MI K g24 "bind" "Filling.bind" eX)
  (u25x10 : findIn K (.ref C10) "__init__" = some (some (.ref g25)))
  (j25 : MI K g25 "__init__" "Shelf.__init__" dG)
  (u26x10 : findIn K (.ref C10) "draw" = some (some (.ref g26)))
  (j26 : MI K g26 "draw" "Shelf.draw" gB)
  (u27x10 : findIn K (.ref C10) "filled" = some (some (.ref g27)))
  (j27 : MI K g27 "filled" "Shelf.filled" fG)
  (u28x10 : findIn K (.ref C10) "has_filled" = some (some (.ref g28)))
  (j28 : MI K g28 "has_filled" "Shelf.has_filled" cO)
  (u29x10 : findIn K (.ref C10) "check_filled" = some (some (.ref g29)))
  (j29 : MI K g29 "check_filled" "Shelf.check_filled" bW)
  (u30x10 : findIn K (.ref C10) "names" = some (some (.ref g30)))
  (j30 : MI K g30 "names" "Shelf.names" fP)
  (u31x10 : findIn K (.ref C10) "means" = some (some (.ref g31)))
  (j31 : MI K g31 "means" "Shelf.means" fV)
  (u32x10 : findIn K (.ref C10) "touched" = some (some (.ref g32)))
  (j32 : MI K g32 "touched" "Shelf.touched" dU)
  (u33x10 : findIn K (.ref C10) "copied" = some (some (.ref g33)))
  (j33 : MI K g33 "copied" "Shelf.copied" mz)
  (u34x8 : findIn K (.ref C8) "__init__" = some (some (.ref g34)))
  (j34 : MI K g34 "__init__" "House.__init__" dq)
  (u35x8 : findIn K (.ref C8) "addresses" = some (some (.ref g35)))
  (j35 : MI K g35 "addresses" "House.addresses" jl)
  (u36x8 : findIn K (.ref C8) "has" = some (some (.ref g36)))
  (j36 : MI K g36 "has" "House.has" iB)
  (u37x8 : findIn K (.ref C8) "part" = some (some (.ref g37)))
  (j37 : MI K g37 "part" "House.part" gJ)
  (u38x7 : findIn K (.ref C7) "__init__" = some (some (.ref g38)))
  (j38 : MI K g38 "__init__" "Part.__init__" dZ)
  (u39x7 : findIn K (.ref C7) "bound" = some (some (.ref g39)))
  (j39 : MI K g39 "bound" "Part.bound" gM)
  (u40x7 : findIn K (.ref C7) "place_of" = some (some (.ref g40)))
  (j40 : MI K g40 "place_of" "Part.place_of" dX)
  (oi : findIn K (.ref C6) "__init__" = some (some (.builtin "object.__init__")))
  (cg : specialIn K (.builtin "object.__class__") "__get__" = some (some (.builtin "getset_descriptor.__get__")))
  (ctk : takesIn K (.builtin "object.__class__") = some true)
  (gc0 : nsIn K mainGlobals "MOST_PARTS" = some (some (.int 12 tk0)))
  (z0 : nsIn K mainGlobals "sorted" = some none)
  (z1 : nsIn K mainGlobals "dict" = some none)
  (z2 : nsIn K mainGlobals "any" = some none)
  (z3 : nsIn K mainGlobals "enumerate" = some none)
  (z4 : nsIn K mainGlobals "len" = some none)
  (z5 : nsIn K mainGlobals "range" = some none)
  (z6 : nsIn K mainGlobals "isinstance" = some none)
  (z7 : nsIn K mainGlobals "str" = some none)
  (z8 : nsIn K mainGlobals "int" = some none)
  (z9 : nsIn K mainGlobals "bool" = some none)
  (z10 : nsIn K mainGlobals "list" = some none)
  (z11 : nsIn K mainGlobals "tuple" = some none)
  (z12 : nsIn K mainGlobals "all" = some none)
  (z13 : nsIn K mainGlobals "max" = some none)
  (z14 : nsIn K mainGlobals "min" = some none)
  (z15 : nsIn K mainGlobals "zip" = some none) :
  ∃ fd : FuncData, (∀ (s : Shared) (v : Value), BindsTo s fd ⟨[v], []⟩ [("_law_script", v)]) /\ ∀ base : Heap, K.In base -> base.Ns mainGlobals mg -> aG l.prog w K mg base CX0 16 fa fd ["_law_script"] (Bp K) := by
 have R0 : RCl K C0 := ⟨⟨D0.pg, D0.hd, D0.po, D0.sa⟩, D0.ca, cg, ctk, D0.mo⟩
 have R1 : RCl K C1 := ⟨⟨D1.pg, D1.hd, D1.po, D1.sa⟩, D1.ca, cg, ctk, D1.mo⟩
 have R2 : RCl K C2 := ⟨⟨D2.pg, D2.hd, D2.po, D2.sa⟩, D2.ca, cg, ctk, D2.mo⟩
 have R3 : RCl K C3 := ⟨⟨D3.pg, D3.hd, D3.po, D3.sa⟩, D3.ca, cg, ctk, D3.mo⟩
 have R4 : RCl K C4 := ⟨⟨D4.pg, D4.hd, D4.po, D4.sa⟩, D4.ca, cg, ctk, D4.mo⟩
 have R5 : RCl K C5 := ⟨⟨D5.pg, D5.hd, D5.po, D5.sa⟩, D5.ca, cg, ctk, D5.mo⟩
 have R6 : RCl K C6 := ⟨⟨D6.pg, D6.hd, D6.po, D6.sa⟩, D6.ca, cg, ctk, D6.mo⟩
 have R7 : RCl K C7 := ⟨⟨D7.pg, D7.hd, D7.po, D7.sa⟩, D7.ca, cg, ctk, D7.mo⟩
 have R8 : RCl K C8 := ⟨⟨D8.pg, D8.hd, D8.po, D8.sa⟩, D8.ca, cg, ctk, D8.mo⟩
 have R9 : RCl K C9 := ⟨⟨D9.pg, D9.hd, D9.po, D9.sa⟩, D9.ca, cg, ctk, D9.mo⟩
 have R10 : RCl K C10 := ⟨⟨D10.pg, D10.hd, D10.po, D10.sa⟩, D10.ca, cg, ctk, D10.mo⟩
 have FM : Mm K (fun i => [C0, C1, C2, C3, C4, C5, C6, C7, C8, C9, C10].getD i 0) := ⟨qW R0 R1 R2 R3 R4 R5 R6, fun i j h1 h2 => qW (p := fun i => ∀ j, j <= 6 -> kitOne K (.ref ([C0, C1, C2, C3, C4, C5, C6, C7, C8, C9, C10].getD i 0)) (.ref ([C0, C1, C2, C3, C4, C5, C6, C7, C8, C9, C10].getD j 0)) = some (Ds i j)) (qW (aQ D0.mm D0.mm D0.mo D0.ty) (aQ mm0x1 D1.mm D1.mo D1.ty) (aQ mm0x2 D2.mm D2.mo D2.ty) (aQ mm0x3 D3.mm D3.mo D3.ty) (aQ mm0x4 D4.mm D4.mo D4.ty) (aQ mm0x5 D5.mm D5.mo D5.ty) (aQ mm0x6 D6.mm D6.mo D6.ty)) (qW (aQ mm1x0 D0.mm D0.mo D0.ty) (aQ D1.mm D1.mm D1.mo D1.ty) (aQ mm1x2 D2.mm D2.mo D2.ty) (aQ mm1x3 D3.mm D3.mo D3.ty) (aQ mm1x4 D4.mm D4.mo D4.ty) (aQ mm1x5 D5.mm D5.mo D5.ty) (aQ mm1x6 D6.mm D6.mo D6.ty)) (qW (aQ mm2x0 D0.mm D0.mo D0.ty) (aQ mm2x1 D1.mm D1.mo D1.ty) (aQ D2.mm D2.mm D2.mo D2.ty) (aQ mm2x3 D3.mm D3.mo D3.ty) (aQ mm2x4 D4.mm D4.mo D4.ty) (aQ mm2x5 D5.mm D5.mo D5.ty) (aQ mm2x6 D6.mm D6.mo D6.ty)) (qW (aQ mm3x0 D0.mm D0.mo D0.ty) (aQ mm3x1 D1.mm D1.mo D1.ty) (aQ mm3x2 D2.mm D2.mo D2.ty) (aQ D3.mm D3.mm D3.mo D3.ty) (aQ mm3x4 D4.mm D4.mo D4.ty) (aQ mm3x5 D5.mm D5.mo D5.ty) (aQ mm3x6 D6.mm D6.mo D6.ty)) (qW (aQ mm4x0 D0.mm D0.mo D0.ty) (aQ mm4x1 D1.mm D1.mo D1.ty) (aQ mm4x2 D2.mm D2.mo D2.ty) (aQ mm4x3 D3.mm D3.mo D3.ty) (aQ D4.mm D4.mm D4.mo D4.ty) (aQ mm4x5 D5.mm D5.mo D5.ty) (aQ mm4x6 D6.mm D6.mo D6.ty)) (qW (aQ mm5x0 D0.mm D0.mo D0.ty) (aQ mm5x1 D1.mm D1.mo D1.ty) (aQ mm5x2 D2.mm D2.mo D2.ty) (aQ mm5x3 D3.mm D3.mo D3.ty) (aQ mm5x4 D4.mm D4.mo D4.ty) (aQ D5.mm D5.mm D5.mo D5.ty) (aQ mm5x6 D6.mm D6.mo D6.ty)) (qW (aQ mm6x0 D0.mm D0.mo D0.ty) (aQ mm6x1 D1.mm D1.mo D1.ty) (aQ mm6x2 D2.mm D2.mo D2.ty) (aQ mm6x3 D3.mm D3.mo D3.ty) (aQ mm6x4 D4.mm D4.mo D4.ty) (aQ mm6x5 D5.mm D5.mo D5.ty) (aQ D6.mm D6.mm D6.mo D6.ty)) i h1 j h2, qW nf0x0 nf1x0 nf2x0 nf3x0 nf4x0 nf5x0 nf6x0, qW nf0x1 nf1x1 nf2x1 nf3x1 nf4x1 nf5x1 nf6x1, qW nf0x2 nf1x2 nf2x2 nf3x2 nf4x2 nf5x2 nf6x2, qW nf0x3 nf1x3 nf2x3 nf3x3 nf4x3 nf5x3 nf6x3⟩
 have TT : Tx K mg (fun i => [C0, C1, C2, C3, C4, C5, C6, C7, C8, C9, C10].getD i 0) := ⟨mg_none_of X G z0, mg_none_of X G z1, mg_none_of X G z2, mg_none_of X G z3, mg_none_of X G z4, mg_none_of X G z5, mg_none_of X G z6, mg_none_of X G z7, mg_none_of X G z8, mg_none_of X G z9, mg_none_of X G z10, mg_none_of X G z11, mg_none_of X G z12, mg_none_of X G z13, mg_none_of X G z14, mg_none_of X G z15, ⟨_, mg_of X G gc0⟩, fat X G ba1 h0, fat X G ba1 h1, fat X G ba1 h2, fat X G ba2 h3, fat X G ba1 h4, fat X G ba1 h5, fat X G ba2 h6, fat X G ba3 h7, fat X G ba3 h8, fat X G ba3 h9, fat X G ba2 h10, fat X G ba3 h11, fat X G ba2 h12, fat X G ba2 h13, fat X G ba1 h14, fat X G ba2 h15, fat X G ba2 h16, fat X G ba2 h17, fat X G ba3 h18, fat X G ba2 h19, fat X G ba4 h20, fat X G ba3 h21, fat X G ba2 h22, fat X G ba3 h23, fat X G ba3 h24, cZ ba1 j0 fun i k => ⟨⟨u0x5, i, k⟩, ⟨u0x6, i, k⟩⟩, cZ ba3 j1 fun i k => ⟨D0.mq, u1x0, i, D0.kc⟩, cZ ba1 j2 fun i k => ⟨u2x0, i, k⟩, cZ ba3 j3 fun i k => ⟨D1.mq, u3x1, i, D1.kc⟩, cZ ba1 j4 fun i k => ⟨u4x1, i, k⟩, cZ ba3 j5 fun i k => ⟨D2.mq, u5x2, i, D2.kc⟩, cZ ba1 j6 fun i k => ⟨u6x2, i, k⟩, cZ ba3 j7 fun i k => ⟨D3.mq, u7x3, i, D3.kc⟩, cZ ba1 j8 fun i k => ⟨u8x3, i, k⟩, cZ ba4 j9 fun i k => ⟨D4.mq, u9x4, i, D4.kc⟩, cZ ba1 j10 fun i k => ⟨u10x4, i, k⟩, cZ ba2 j11 fun i k => ⟨D5.mq, u11x5, i, D5.kc⟩, cZ ba2 j12 fun i k => ⟨D9.mq, u12x9, i, D9.kc⟩, cZ ba1 j13 fun i k => ⟨u13x9, i, k⟩, cZ ba1 j14 fun i k => ⟨u14x9, i, k⟩, cZ ba1 j15 fun i k => ⟨u15x9, i, k⟩, cZ ba2 j16 fun i k => ⟨u16x9, i, k⟩, cZ ba2 j17 fun i k => ⟨u17x9, i, k⟩, cZ ba1 j18 fun i k => ⟨u18x9, i, k⟩, cZ ba2 j19 fun i k => ⟨u19x9, i, k⟩, cZ ba2 j20 fun i k => ⟨u20x9, i, k⟩, cZ ba2 j21 fun i k => ⟨u21x9, i, k⟩, cZ ba2 j22 fun i k => ⟨u22x9, i, k⟩, cZ ba3 j23 fun i k => ⟨u23x9, i, k⟩, cZ ba4 j24 fun i k => ⟨u24x9, i, k⟩, cZ ba2 j25 fun i k => ⟨D10.mq, u25x10, i, D10.kc⟩, cZ ba2 j26 fun i k => ⟨u26x10, i, k⟩, cZ ba1 j27 fun i k => ⟨u27x10, i, k⟩, cZ ba2 j28 fun i k => ⟨u28x10, i, k⟩, cZ ba2 j29 fun i k => ⟨u29x10, i, k⟩, cZ ba2 j30 fun i k => ⟨u30x10, i, k⟩, cZ ba3 j31 fun i k => ⟨u31x10, i, k⟩, cZ ba2 j32 fun i k => ⟨u32x10, i, k⟩, cZ ba1 j33 fun i k => ⟨u33x10, i, k⟩, cZ ba2 j34 fun i k => ⟨D8.mq, u34x8, i, D8.kc⟩, cZ ba1 j35 fun i k => ⟨u35x8, i, k⟩, cZ ba2 j36 fun i k => ⟨u36x8, i, k⟩, cZ ba2 j37 fun i k => ⟨u37x8, i, k⟩, cZ ba3 j38 fun i k => ⟨D7.mq, u38x7, i, D7.kc⟩, cZ ba1 j39 fun i k => ⟨u39x7, i, k⟩, cZ ba2 j40 fun i k => ⟨u40x7, i, k⟩, mg_of X G D0.A, mg_of X G D1.A, mg_of X G D2.A, mg_of X G D3.A, mg_of X G D4.A, mg_of X G D5.A, mg_of X G D6.A, mg_of X G D7.A, mg_of X G D8.A, mg_of X G D9.A, mg_of X G D10.A, ⟨D6.mq, oi, D6.kc⟩, FM, ⟨R7, nf7x0, nf7x1, aQ D7.mm D7.mm D7.mo D7.ty⟩, ⟨R8, nf8x0⟩, ⟨R9, nf9x0, nf9x1, nf9x2, nf9x3, nf9x4, nf9x5⟩, ⟨R10, nf10x0, nf10x1, nf10x2⟩⟩
 obtain ⟨f, fd, a, F⟩ := h25
 cases hfa.symm.trans (mg_of X G a)
 obtain ⟨oc, od, kV, doc, pm, an, cdv, ct, osl, rfl, lk, hcd⟩ := id F.ex
 exact ⟨_, fun s v => .of_eq rfl, fun base _ _ => Jy TT F⟩
theorem walk {l : OpenLaw} {q : Program} {loose : List Str} {XP : (Str -> Option Value) -> Heap -> Prop} {YP : World -> Heap -> Prop} {d : DefRec} {K : Params -> Frag} (hn : l.most = some 63) (hdf : d.params.defaults = [])
  (hY : ∀ (w : World) (h : Heap), YP w h -> (K w.params).In h)
  (F : ∀ (w : World) (mg : MG) (fa : Addr) (h : Heap), (K w.params).In h -> h.Ns mainGlobals mg -> mg d.name = some (.ref fa) ->
   ∃ fd : FuncData, (∀ (s : Shared) (u : Value), BindsTo s fd ⟨[u], []⟩ [("_law_script", u)]) /\ ∀ base : Heap, (K w.params).In base -> base.Ns mainGlobals mg -> aG l.prog w (K w.params) mg base CX0 16 fa fd ["_law_script"] (Bp (K w.params))) :
  WalkO q loose XP YP l.row.toRowW d [] (fun f vs => PySem.call f vs) :=
 L2.HW (n := 63) (k := 16) (x := "_law_script") (CX := fun _ => CX0) (sp := fun w => Bp (K w.params)) hn Z0 hdf ⟨rfl, Z0, Z0⟩ hY F (fun _ _ a ns hl _ hS => ⟨a, ns, rfl, hS, hl, fun _ => rfl⟩) fun _ _ _ _ _ z => z
noncomputable section
noncomputable abbrev ke (P : Params) (x : Str) (t : Nat) (v : Value) : DictEntry := ⟨PyData.keyHash P x, .str x t, v⟩
noncomputable abbrev nq (b : Bool) (o : Obj) : Str := match o.data with | .fields a => (match a.toList with | .str n _ :: .str q _ :: _ => bif b then n else q | _ => "") | _ => ""
noncomputable abbrev kf (s : Stmt) (s0 : Obj) (m : Value) (c : Nat) : Obj := { cls := .type "function", data := .func { name := nq true s0, qualname := nq false s0, params := L2.d7 s, body := .stmts (L2.cU s), scope := L2.aD s, globals := 3, closure := [], defaults := .none, kwdefaults := .none, pyModule := m, code := .ref c } }
noncomputable abbrev kc (n q : Str) (a b c : Nat) (l k : Int) (f r : Nat) (t : Bool) (g : Int) (u : Nat) (x y z : Value) (v : Nat) (m : Int) (e : Nat) : Obj := { cls := .type "code", data := .fields #[.str n a, .str q b, .str "/claim/cut.py" c, .int l 0, .int k 0, .int 0 0, .int 0 0, .int f 0, .ref r, .bool t, .int g 0, .ref u, x, y, z, .ref v, .int m 0, .int l 0, .str "/claim/cut.py" e] }
noncomputable abbrev kt (n : Str) (b s : Value) (m : List Value) (d : Nat) (x : Option Value) (t u : Nat) (w : String) (l : List Value) : Obj := { cls := .type "type", data := .cls { name := n, bases := [b], mro := s :: m, ns := d, qualname := n, subclasses := l }, slots := #[x, none, some (.str n t), some (.str n u), some (.builtin w), some (.bool true)] }
noncomputable abbrev kd (n q : Str) (a : Nat) (l k : Int) (f r m : Nat) : Obj := kc n q a (a + 1) (a + 2) l k f r true 181 (r + 1) .none (.ref (r + 2)) (.ref (r + 3)) (r + 4) m (m + 1)
noncomputable abbrev kb (n q : Str) (a : Nat) (l k : Int) (f r m : Nat) : Obj := kc n q a (a + 1) (a + 2) l k f r true 181 (r + 1) .none .none .none (r + 2) m (m + 1)
noncomputable abbrev ku (n : Str) (a : Nat) (l k : Int) (f r m : Nat) : Obj := kd n n a l k f r m
noncomputable abbrev kv (n : Str) (a : Nat) (l k : Int) (f r m : Nat) : Obj := kb n n a l k f r m
noncomputable abbrev g1 (t a : Nat) : Obj := { cls := .type "getset_descriptor", data := .fields #[.str "__dict__" t, .ref a, .builtin "function.__dict__", .builtin "function.__dict__#set"] }
noncomputable abbrev g2 (t a : Nat) : Obj := { cls := .type "getset_descriptor", data := .fields #[.str "__weakref__" t, .ref a, .builtin "ExceptionGroup.__weakref__", .none] }
abbrev mE : List Value := [.type "ValueError", .type "Exception", .type "BaseException", .type "object"]
abbrev mO : List Value := [.type "object"]
noncomputable abbrev ks (P : Params) (t r : Nat) : DictEntry := ke P "__static_attributes__" t (.ref r)
noncomputable abbrev kw (P : Params) (t r : Nat) : DictEntry := ke P "__weakref__" t (.ref r)
noncomputable abbrev kx (P : Params) (t r : Nat) : DictEntry := ke P "__dict__" t (.ref r)
noncomputable abbrev ki (P : Params) (t r : Nat) : DictEntry := ke P "__init__" t (.ref r)
noncomputable abbrev ko (P : Params) (t : Nat) : DictEntry := ke P "__doc__" t .none
noncomputable abbrev kz (P : Params) (m : Value) (a : Nat) (l : Int) (r : List DictEntry) (k : Nat) : Obj := { cls := .type "dict", data := .dict (List.toArray (ke P "__module__" a m :: ke P "__firstlineno__" (a + 4) (.int l (a + 3)) :: r)) k }
abbrev J5 : Value := .str "__main__" 164
abbrev fZ : Value := .str "drawhouse.errors" 194
abbrev J8 : Value := .str "drawhouse.words" 395
abbrev KD : Value := .str "drawhouse.exprs" 417
abbrev cL : Value := .str "drawhouse.rows" 439
abbrev NZ : Value := .str "drawhouse.values" 742
abbrev jB : Value := .str "drawhouse.filling" 751
abbrev p8 : Value := .str "drawhouse.shelf" 968
abbrev nC : Value := .str "drawhouse.house" 1083
abbrev uM : Value := .str "drawhouse.parts" 1174
abbrev nY : Value := .str "law_drawhouse_k41_rows_of_one_part" 1230
abbrev n0 (P : Params) (r : List DictEntry) : List DictEntry := ke P "__doc__" 166 .none :: ke P "__package__" 167 .none :: ke P "__loader__" 168 (.builtin "__main__.__loader__#opaque") :: ke P "__spec__" 169 .none :: ke P "__annotations__" 170 (.ref 6) :: ke P "__builtins__" 171 (.ref 4) :: ke P "__file__" 173 (.str "/claim/cut.py" 172) :: ke P "__cached__" 174 .none :: ke P "_wall" 193 (.ref 21) :: ke P "HouseError" 213 (.ref 31) :: ke P "TooMany" 238 (.ref 51) :: ke P "Double" 263 (.ref 70) :: ke P "Orphan" 288 (.ref 89) :: ke P "Clash" 313 (.ref 108) :: ke P "NoPart" 338 (.ref 127) :: r
abbrev n1 (P : Params) (r : List DictEntry) : List DictEntry := ke P "NoName" 363 (.ref 146) :: ke P "Fault" 394 (.ref 165) :: ke P "is_whole" 403 (.ref 174) :: ke P "prefixes" 409 (.ref 179) :: ke P "parent_of" 416 (.ref 186) :: ke P "show_term" 427 (.ref 193) :: ke P "show_expr" 438 (.ref 200) :: ke P "Row" 481 (.ref 231) :: ke P "Let" 522 (.ref 266) :: ke P "Deed" 563 (.ref 299) :: r
abbrev n2 (P : Params) (r : List DictEntry) : List DictEntry := ke P "Draw" 611 (.ref 339) :: ke P "Late" 659 (.ref 379) :: ke P "Take" 709 (.ref 419) :: ke P "Need" 741 (.ref 445) :: ke P "kind_of" 750 (.ref 454) :: ke P "path_end" 765 (.ref 461) :: ke P "call_deed" 777 (.ref 468) :: ke P "term_end" 791 (.ref 475) :: ke P "come_to" 805 (.ref 482) :: ke P "looked_at" 813 (.ref 489) :: ke P "taken" 822 (.ref 496) :: ke P "row_value" 831 (.ref 503) :: r
abbrev n3 (P : Params) (r : List DictEntry) : List DictEntry := ke P "Filling" 967 (.ref 604) :: ke P "Shelf" 1082 (.ref 695) :: ke P "MOST_PARTS" 1086 (.int 12 1085) :: ke P "is_orphan" 1095 (.ref 706) :: ke P "is_clash" 1101 (.ref 711) :: ke P "check_parts" 1107 (.ref 716) :: r
abbrev n4 (P : Params) (r : List DictEntry) : List DictEntry := ke P "House" 1173 (.ref 764) :: ke P "Part" 1229 (.ref 804) :: ke P "_law_cell" 1239 (.ref 815) :: ke P "_law_sub" 1247 (.ref 822) :: ke P "_law_number" 1255 (.ref 829) :: ke P "_law_pick" 1268 (.ref 836) :: ke P "_law_names" 1274 (.ref 841) :: ke P "_law_some" 1280 (.ref 846) :: ke P "_law_terms" 1296 (.ref 853) :: ke P "_law_sum" 1309 (.ref 860) :: ke P "_law_part" 1315 (.ref 865) :: ke P "_law_tells" 1328 (.ref 872) :: ke P "law" 1334 (.ref 877) :: r
abbrev k3 (P : Params) : Obj := { cls := .type "dict", data := .dict (List.toArray (ke P "__name__" 165 (.str "law_drawhouse_k41_rows_of_one_part" 1230) :: n0 P (n1 P (n2 P (n3 P (n4 P ([]))))))) 57 }
abbrev k20 := ku "_wall" 187 1 1 3 15 191
abbrev k21 := kf (Mine.top 0) k20 J5 20
abbrev k30 (P : Params) : Obj := kz P fZ 203 5 [ks P 208 29, kw P 210 32, ko P 211] 3
abbrev k31 := kt "HouseError" (.type "ValueError") (.ref 31) mE 30 (some (.ref 22)) 196 204 "ValueError.__new__" [.ref 51, .ref 70, .ref 89, .ref 108, .ref 127, .ref 146, .ref 165]
abbrev k32 := g2 209 31
abbrev k47 := kd "__init__" "TooMany.__init__" 226 9 2 3 42 231
abbrev k48 := kf (Mine.sb 3 0) k47 fZ 47
abbrev k50 (P : Params) : Obj := kz P fZ 221 7 [ki P 233 48, ks P 235 49, ko P 236] 2
abbrev k51 := kt "TooMany" (.ref 31) (.ref 51) (.ref 31 :: mE) 50 (some (.ref 35)) 214 222 "ValueError.__new__" []
abbrev k66 := kd "__init__" "Double.__init__" 251 14 2 3 61 256
abbrev k67 := kf (Mine.sb 4 0) k66 fZ 66
abbrev k69 (P : Params) : Obj := kz P fZ 246 12 [ki P 258 67, ks P 260 68, ko P 261] 2
abbrev k70 := kt "Double" (.ref 31) (.ref 70) (.ref 31 :: mE) 69 (some (.ref 54)) 239 247 "ValueError.__new__" []
abbrev k85 := kd "__init__" "Orphan.__init__" 276 19 2 3 80 281
abbrev k86 := kf (Mine.sb 5 0) k85 fZ 85
abbrev k88 (P : Params) : Obj := kz P fZ 271 17 [ki P 283 86, ks P 285 87, ko P 286] 2
abbrev k89 := kt "Orphan" (.ref 31) (.ref 89) (.ref 31 :: mE) 88 (some (.ref 73)) 264 272 "ValueError.__new__" []
abbrev k104 := kd "__init__" "Clash.__init__" 301 24 2 3 99 306
abbrev k105 := kf (Mine.sb 6 0) k104 fZ 104
abbrev k107 (P : Params) : Obj := kz P fZ 296 22 [ki P 308 105, ks P 310 106, ko P 311] 2
abbrev k108 := kt "Clash" (.ref 31) (.ref 108) (.ref 31 :: mE) 107 (some (.ref 92)) 289 297 "ValueError.__new__" []
abbrev k123 := kd "__init__" "NoPart.__init__" 326 29 2 3 118 331
abbrev k124 := kf (Mine.sb 7 0) k123 fZ 123
abbrev k126 (P : Params) : Obj := kz P fZ 321 27 [ki P 333 124, ks P 335 125, ko P 336] 2
abbrev k127 := kt "NoPart" (.ref 31) (.ref 127) (.ref 31 :: mE) 126 (some (.ref 111)) 314 322 "ValueError.__new__" []
abbrev k142 := kd "__init__" "NoName.__init__" 351 34 2 3 137 356
abbrev k143 := kf (Mine.sb 8 0) k142 fZ 142
abbrev k145 (P : Params) : Obj := kz P fZ 346 32 [ki P 358 143, ks P 360 144, ko P 361] 2
abbrev k146 := kt "NoName" (.ref 31) (.ref 146) (.ref 31 :: mE) 145 (some (.ref 130)) 339 347 "ValueError.__new__" []
abbrev k161 := kd "__init__" "Fault.__init__" 376 39 5 3 156 384
abbrev k162 := kf (Mine.sb 9 0) k161 fZ 161
abbrev k164 (P : Params) : Obj := kz P fZ 371 37 [ki P 386 162, ks P 391 163, ko P 392] 2
abbrev k165 := kt "Fault" (.ref 31) (.ref 165) (.ref 31 :: mE) 164 (some (.ref 149)) 364 372 "ValueError.__new__" []
abbrev k173 := ku "is_whole" 397 46 1 3 168 401
abbrev k174 := kf (Mine.top 11) k173 J8 173
abbrev k178 := kv "prefixes" 404 48 1 3 175 407
abbrev k179 := kf (Mine.top 12) k178 J8 178
abbrev k185 := ku "parent_of" 410 51 1 3 180 414
abbrev k186 := kf (Mine.top 13) k185 J8 185
abbrev k192 := ku "show_term" 419 54 2 3 187 425
abbrev k193 := kf (Mine.top 15) k192 KD 192
abbrev k199 := ku "show_expr" 428 61 1 3 194 436
abbrev k200 := kf (Mine.top 16) k199 KD 199
abbrev k213 := kd "binds" "Row.binds" 453 71 1 3 208 457
abbrev k214 := kf (Mine.sb 18 0) k213 cL 213
abbrev k220 := kd "asked" "Row.asked" 460 74 1 3 215 464
abbrev k221 := kf (Mine.sb 18 1) k220 cL 220
abbrev k227 := kd "said" "Row.said" 467 77 1 3 222 471
abbrev k228 := kf (Mine.sb 18 2) k227 cL 227
abbrev k230 (P : Params) : Obj := kz P cL 448 69 [ke P "binds" 459 (.ref 214), ke P "asked" 466 (.ref 221), ke P "said" 473 (.ref 228), ks P 474 229, kx P 476 232, kw P 478 233, ko P 479] 4
abbrev k231 := kt "Row" (.type "object") (.ref 231) mO 230 none 441 449 "object.__new__" [.ref 266, .ref 299, .ref 339, .ref 379, .ref 419, .ref 445]
abbrev k232 := g1 475 231
abbrev k233 := g2 477 231
abbrev k248 := kd "__init__" "Let.__init__" 494 81 3 3 243 500
abbrev k249 := kf (Mine.sb 19 0) k248 cL 248
abbrev k255 := kd "binds" "Let.binds" 503 85 1 3 250 507
abbrev k256 := kf (Mine.sb 19 1) k255 cL 255
abbrev k262 := kd "said" "Let.said" 510 88 1 3 257 514
abbrev k263 := kf (Mine.sb 19 2) k262 cL 262
abbrev k265 (P : Params) : Obj := kz P cL 489 79 [ki P 502 249, ke P "binds" 509 (.ref 256), ke P "said" 516 (.ref 263), ks P 519 264, ko P 520] 2
abbrev k266 := kt "Let" (.ref 231) (.ref 266) (.ref 231 :: mO) 265 (some (.ref 236)) 482 490 "object.__new__" []
abbrev k281 := kd "__init__" "Deed.__init__" 535 92 3 3 276 541
abbrev k282 := kf (Mine.sb 20 0) k281 cL 281
abbrev k288 := kd "binds" "Deed.binds" 544 96 1 3 283 548
abbrev k289 := kf (Mine.sb 20 1) k288 cL 288
abbrev k295 := kd "said" "Deed.said" 551 99 1 3 290 555
abbrev k296 := kf (Mine.sb 20 2) k295 cL 295
abbrev k298 (P : Params) : Obj := kz P cL 530 90 [ki P 543 282, ke P "binds" 550 (.ref 289), ke P "said" 557 (.ref 296), ks P 560 297, ko P 561] 2
abbrev k299 := kt "Deed" (.ref 231) (.ref 299) (.ref 231 :: mO) 298 (some (.ref 269)) 523 531 "object.__new__" []
abbrev k314 := kd "__init__" "Draw.__init__" 576 103 3 3 309 582
abbrev k315 := kf (Mine.sb 21 0) k314 cL 314
abbrev k321 := kd "binds" "Draw.binds" 585 107 1 3 316 589
abbrev k322 := kf (Mine.sb 21 1) k321 cL 321
abbrev k328 := kd "asked" "Draw.asked" 592 110 1 3 323 596
abbrev k329 := kf (Mine.sb 21 2) k328 cL 328
abbrev k335 := kd "said" "Draw.said" 599 113 1 3 330 603
abbrev k336 := kf (Mine.sb 21 3) k335 cL 335
abbrev k338 (P : Params) : Obj := kz P cL 571 101 [ki P 584 315, ke P "binds" 591 (.ref 322), ke P "asked" 598 (.ref 329), ke P "said" 605 (.ref 336), ks P 608 337, ko P 609] 2
abbrev k339 := kt "Draw" (.ref 231) (.ref 339) (.ref 231 :: mO) 338 (some (.ref 302)) 564 572 "object.__new__" []
abbrev k354 := kd "__init__" "Late.__init__" 624 117 3 3 349 630
abbrev k355 := kf (Mine.sb 22 0) k354 cL 354
abbrev k361 := kd "binds" "Late.binds" 633 121 1 3 356 637
abbrev k362 := kf (Mine.sb 22 1) k361 cL 361
abbrev k368 := kd "asked" "Late.asked" 640 124 1 3 363 644
abbrev k369 := kf (Mine.sb 22 2) k368 cL 368
abbrev k375 := kd "said" "Late.said" 647 127 1 3 370 651
abbrev k376 := kf (Mine.sb 22 3) k375 cL 375
abbrev k378 (P : Params) : Obj := kz P cL 619 115 [ki P 632 355, ke P "binds" 639 (.ref 362), ke P "asked" 646 (.ref 369), ke P "said" 653 (.ref 376), ks P 656 377, ko P 657] 2
abbrev k379 := kt "Late" (.ref 231) (.ref 379) (.ref 231 :: mO) 378 (some (.ref 342)) 612 620 "object.__new__" []
abbrev k394 := kd "__init__" "Take.__init__" 672 131 4 3 389 679
abbrev k395 := kf (Mine.sb 23 0) k394 cL 394
abbrev k401 := kd "binds" "Take.binds" 682 136 1 3 396 686
abbrev k402 := kf (Mine.sb 23 1) k401 cL 401
abbrev k408 := kd "asked" "Take.asked" 689 139 1 3 403 693
abbrev k409 := kf (Mine.sb 23 2) k408 cL 408
abbrev k415 := kd "said" "Take.said" 696 142 1 3 410 700
abbrev k416 := kf (Mine.sb 23 3) k415 cL 415
abbrev k418 (P : Params) : Obj := kz P cL 667 129 [ki P 681 395, ke P "binds" 688 (.ref 402), ke P "asked" 695 (.ref 409), ke P "said" 702 (.ref 416), ks P 706 417, ko P 707] 2
abbrev k419 := kt "Take" (.ref 231) (.ref 419) (.ref 231 :: mO) 418 (some (.ref 382)) 660 668 "object.__new__" []
abbrev k434 := kd "__init__" "Need.__init__" 722 146 2 3 429 727
abbrev k435 := kf (Mine.sb 24 0) k434 cL 434
abbrev k441 := kd "said" "Need.said" 730 149 1 3 436 734
abbrev k442 := kf (Mine.sb 24 1) k441 cL 441
abbrev k444 (P : Params) : Obj := kz P cL 717 144 [ki P 729 435, ke P "said" 736 (.ref 442), ks P 738 443, ko P 739] 2
abbrev k445 := kt "Need" (.ref 231) (.ref 445) (.ref 231 :: mO) 444 (some (.ref 422)) 710 718 "object.__new__" []
abbrev k453 := ku "kind_of" 744 152 1 3 448 748
abbrev k454 := kf (Mine.top 26) k453 NZ 453
abbrev k460 := ku "path_end" 753 157 3 3 455 763
abbrev k461 := kf (Mine.top 28) k460 jB 460
abbrev k467 := ku "call_deed" 766 168 2 3 462 775
abbrev k468 := kf (Mine.top 29) k467 jB 467
abbrev k474 := ku "term_end" 778 176 3 3 469 789
abbrev k475 := kf (Mine.top 30) k474 jB 474
abbrev k481 := ku "come_to" 792 187 3 3 476 803
abbrev k482 := kf (Mine.top 31) k481 jB 481
abbrev k488 := ku "looked_at" 806 197 2 3 483 811
abbrev k489 := kf (Mine.top 32) k488 jB 488
abbrev k495 := ku "taken" 814 202 2 3 490 820
abbrev k496 := kf (Mine.top 33) k495 jB 495
abbrev k502 := ku "row_value" 823 209 3 3 497 829
abbrev k503 := kf (Mine.top 34) k502 jB 502
abbrev k516 := kd "__init__" "Filling.__init__" 844 222 2 3 511 849
abbrev k517 := kf (Mine.sb 35 0) k516 jB 516
abbrev k523 := kd "copied" "Filling.copied" 852 230 1 3 518 858
abbrev k524 := kf (Mine.sb 35 1) k523 jB 523
abbrev k530 := kd "log" "Filling.log" 861 238 1 3 525 865
abbrev k531 := kf (Mine.sb 35 2) k530 jB 530
abbrev k537 := kd "filled" "Filling.filled" 868 241 1 3 532 872
abbrev k538 := kf (Mine.sb 35 3) k537 jB 537
abbrev k544 := kd "names" "Filling.names" 875 244 2 3 539 880
abbrev k545 := kf (Mine.sb 35 4) k544 jB 544
abbrev k551 := kd "touched" "Filling.touched" 883 247 2 3 546 888
abbrev k552 := kf (Mine.sb 35 5) k551 jB 551
abbrev k558 := kd "trail_now" "Filling.trail_now" 891 250 1 3 553 895
abbrev k559 := kf (Mine.sb 35 6) k558 jB 558
abbrev k565 := kd "note" "Filling.note" 898 253 2 3 560 903
abbrev k566 := kf (Mine.sb 35 7) k565 jB 565
abbrev k572 := kd "touch" "Filling.touch" 906 256 2 3 567 911
abbrev k573 := kf (Mine.sb 35 8) k572 jB 572
abbrev k579 := kd "draw_step" "Filling.draw_step" 914 260 2 3 574 920
abbrev k580 := kf (Mine.sb 35 9) k579 jB 579
abbrev k586 := kd "fill_part" "Filling.fill_part" 923 270 2 3 581 930
abbrev k587 := kf (Mine.sb 35 10) k586 jB 586
abbrev k593 := kd "read_step" "Filling.read_step" 933 283 3 3 588 941
abbrev k594 := kf (Mine.sb 35 11) k593 jB 593
abbrev k600 := kd "bind" "Filling.bind" 944 292 4 3 595 951
abbrev k601 := kf (Mine.sb 35 12) k600 jB 600
abbrev k603 (P : Params) : Obj := kz P jB 839 220 [ki P 851 517, ke P "copied" 860 (.ref 524), ke P "log" 867 (.ref 531), ke P "filled" 874 (.ref 538), ke P "names" 882 (.ref 545), ke P "touched" 890 (.ref 552), ke P "trail_now" 897 (.ref 559), ke P "note" 905 (.ref 566), ke P "touch" 913 (.ref 573), ke P "draw_step" 922 (.ref 580), ke P "fill_part" 932 (.ref 587), ke P "read_step" 943 (.ref 594), ke P "bind" 953 (.ref 601), ks P 960 602, kx P 962 605, kw P 964 606, ko P 965] 4
abbrev k604 := kt "Filling" (.type "object") (.ref 604) mO 603 none 832 840 "object.__new__" []
abbrev k605 := g1 961 604
abbrev k606 := g2 963 604
abbrev k621 := kd "__init__" "Shelf.__init__" 982 299 2 3 616 987
abbrev k622 := kf (Mine.sb 37 0) k621 p8 621
abbrev k628 := kd "draw" "Shelf.draw" 990 304 2 3 623 996
abbrev k629 := kf (Mine.sb 37 1) k628 p8 628
abbrev k635 := kd "would_tell" "Shelf.would_tell" 999 311 2 3 630 1004
abbrev k636 := kf (Mine.sb 37 2) k635 p8 635
abbrev k642 := kd "filled" "Shelf.filled" 1007 314 1 3 637 1011
abbrev k643 := kf (Mine.sb 37 3) k642 p8 642
abbrev k649 := kd "has_filled" "Shelf.has_filled" 1014 317 2 3 644 1019
abbrev k650 := kf (Mine.sb 37 4) k649 p8 649
abbrev k656 := kd "check_filled" "Shelf.check_filled" 1022 320 2 3 651 1027
abbrev k657 := kf (Mine.sb 37 5) k656 p8 656
abbrev k663 := kd "names" "Shelf.names" 1030 324 2 3 658 1035
abbrev k664 := kf (Mine.sb 37 6) k663 p8 663
abbrev k670 := kd "means" "Shelf.means" 1038 328 3 3 665 1046
abbrev k671 := kf (Mine.sb 37 7) k670 p8 670
abbrev k677 := kd "touched" "Shelf.touched" 1049 334 2 3 672 1054
abbrev k678 := kf (Mine.sb 37 8) k677 p8 677
abbrev k684 := kd "logs" "Shelf.logs" 1057 338 1 3 679 1061
abbrev k685 := kf (Mine.sb 37 9) k684 p8 684
abbrev k691 := kd "copied" "Shelf.copied" 1064 341 1 3 686 1069
abbrev k692 := kf (Mine.sb 37 10) k691 p8 691
abbrev k694 (P : Params) : Obj := kz P p8 977 297 [ki P 989 622, ke P "draw" 998 (.ref 629), ke P "would_tell" 1006 (.ref 636), ke P "filled" 1013 (.ref 643), ke P "has_filled" 1021 (.ref 650), ke P "check_filled" 1029 (.ref 657), ke P "names" 1037 (.ref 664), ke P "means" 1048 (.ref 671), ke P "touched" 1056 (.ref 678), ke P "logs" 1063 (.ref 685), ke P "copied" 1071 (.ref 692), ks P 1075 693, kx P 1077 696, kw P 1079 697, ko P 1080] 4
abbrev k695 := kt "Shelf" (.type "object") (.ref 695) mO 694 none 970 978 "object.__new__" []
abbrev k696 := g1 1076 695
abbrev k697 := g2 1078 695
abbrev k705 := ku "is_orphan" 1087 348 2 3 700 1093
abbrev k706 := kf (Mine.top 40) k705 nC 705
abbrev k710 := kv "is_clash" 1096 351 2 3 707 1099
abbrev k711 := kf (Mine.top 41) k710 nC 710
abbrev k715 := kv "check_parts" 1102 353 1 3 712 1105
abbrev k716 := kf (Mine.top 42) k715 nC 715
abbrev k729 := kd "__init__" "House.__init__" 1120 366 2 3 724 1125
abbrev k730 := kf (Mine.sb 43 0) k729 nC 729
abbrev k734 := kb "addresses" "House.addresses" 1128 370 1 3 731 1131
abbrev k735 := kf (Mine.sb 43 1) k734 nC 734
abbrev k739 := kb "has" "House.has" 1134 373 2 3 736 1137
abbrev k740 := kf (Mine.sb 43 2) k739 nC 739
abbrev k746 := kd "part" "House.part" 1140 376 2 3 741 1146
abbrev k747 := kf (Mine.sb 43 3) k746 nC 746
abbrev k753 := kd "with_part" "House.with_part" 1149 382 2 3 748 1154
abbrev k754 := kf (Mine.sb 43 4) k753 nC 753
abbrev k760 := kd "without" "House.without" 1157 385 2 3 755 1162
abbrev k761 := kf (Mine.sb 43 5) k760 nC 760
abbrev k763 (P : Params) : Obj := kz P nC 1115 364 [ki P 1127 730, ke P "addresses" 1133 (.ref 735), ke P "has" 1139 (.ref 740), ke P "part" 1148 (.ref 747), ke P "with_part" 1156 (.ref 754), ke P "without" 1164 (.ref 761), ks P 1166 762, kx P 1168 765, kw P 1170 766, ko P 1171] 4
abbrev k764 := kt "House" (.type "object") (.ref 764) mO 763 none 1108 1116 "object.__new__" []
abbrev k765 := g1 1167 764
abbrev k766 := g2 1169 764
abbrev k781 := kd "__init__" "Part.__init__" 1188 390 3 3 776 1194
abbrev k782 := kf (Mine.sb 45 0) k781 uM 781
abbrev k786 := kb "bound" "Part.bound" 1197 394 1 3 783 1200
abbrev k787 := kf (Mine.sb 45 1) k786 uM 786
abbrev k793 := kd "place_of" "Part.place_of" 1203 398 2 3 788 1210
abbrev k794 := kf (Mine.sb 45 2) k793 uM 793
abbrev k800 := kd "text" "Part.text" 1213 406 1 3 795 1217
abbrev k801 := kf (Mine.sb 45 3) k800 uM 800
abbrev k803 (P : Params) : Obj := kz P uM 1183 388 [ki P 1196 782, ke P "bound" 1202 (.ref 787), ke P "place_of" 1212 (.ref 794), ke P "text" 1219 (.ref 801), ks P 1222 802, kx P 1224 805, kw P 1226 806, ko P 1227] 4
abbrev k804 := kt "Part" (.type "object") (.ref 804) mO 803 none 1176 1184 "object.__new__" []
abbrev k805 := g1 1223 804
abbrev k806 := g2 1225 804
abbrev k814 := ku "_law_cell" 1232 409 2 3 809 1237
abbrev k815 := kf (Mine.top 47) k814 nY 814
abbrev k821 := ku "_law_sub" 1240 413 2 3 816 1245
abbrev k822 := kf (Mine.top 48) k821 nY 821
abbrev k828 := ku "_law_number" 1248 417 2 3 823 1253
abbrev k829 := kf (Mine.top 49) k828 nY 828
abbrev k835 := ku "_law_pick" 1256 421 3 3 830 1266
abbrev k836 := kf (Mine.top 50) k835 nY 835
abbrev k840 := kv "_law_names" 1269 430 2 3 837 1272
abbrev k841 := kf (Mine.top 51) k840 nY 840
abbrev k845 := kv "_law_some" 1275 447 4 3 842 1278
abbrev k846 := kf (Mine.top 52) k845 nY 845
abbrev k852 := ku "_law_terms" 1281 452 3 3 847 1294
abbrev k853 := kf (Mine.top 53) k852 nY 852
abbrev k859 := ku "_law_sum" 1297 467 2 3 854 1307
abbrev k860 := kf (Mine.top 54) k859 nY 859
abbrev k864 := kv "_law_part" 1310 477 3 3 861 1313
abbrev k865 := kf (Mine.top 55) k864 nY 864
abbrev k871 := ku "_law_tells" 1316 498 3 3 866 1326
abbrev k872 := kf (Mine.top 56) k871 nY 871
abbrev k876 := kv "law" 1329 507 1 3 873 1332
abbrev k877 := kf (Mine.top 57) k876 nY 876
def myK : Params -> Frag := fun P =>
 (nat_lit 2, { cls := Value.none, data := Data.dict #[] }) ::
 (nat_lit 3, k3 P) ::
 (nat_lit 20, k20) ::
 (nat_lit 21, k21) ::
 (nat_lit 30, k30 P) ::
 (nat_lit 31, k31) ::
 (nat_lit 32, k32) ::
 (nat_lit 47, k47) ::
 (nat_lit 48, k48) ::
 (nat_lit 50, k50 P) ::
 (nat_lit 51, k51) ::
 (nat_lit 66, k66) ::
 (nat_lit 67, k67) ::
 (nat_lit 69, k69 P) ::
 (nat_lit 70, k70) ::
 (nat_lit 85, k85) ::
 (nat_lit 86, k86) ::
 (nat_lit 88, k88 P) ::
 (nat_lit 89, k89) ::
 (nat_lit 104, k104) ::
 (nat_lit 105, k105) ::
 (nat_lit 107, k107 P) ::
 (nat_lit 108, k108) ::
 (nat_lit 123, k123) ::
 (nat_lit 124, k124) ::
 (nat_lit 126, k126 P) ::
 (nat_lit 127, k127) ::
 (nat_lit 142, k142) ::
 (nat_lit 143, k143) ::
 (nat_lit 145, k145 P) ::
 (nat_lit 146, k146) ::
 (nat_lit 161, k161) ::
 (nat_lit 162, k162) ::
 (nat_lit 164, k164 P) ::
 (nat_lit 165, k165) ::
 (nat_lit 173, k173) ::
 (nat_lit 174, k174) ::
 (nat_lit 178, k178) ::
 (nat_lit 179, k179) ::
 (nat_lit 185, k185) ::
 (nat_lit 186, k186) ::
 (nat_lit 192, k192) ::
 (nat_lit 193, k193) ::
 (nat_lit 199, k199) ::
 (nat_lit 200, k200) ::
 (nat_lit 213, k213) ::
 (nat_lit 214, k214) ::
 (nat_lit 220, k220) ::
 (nat_lit 221, k221) ::
 (nat_lit 227, k227) ::
 (nat_lit 228, k228) ::
 (nat_lit 230, k230 P) ::
 (nat_lit 231, k231) ::
 (nat_lit 232, k232) ::
 (nat_lit 233, k233) ::
 (nat_lit 248, k248) ::
 (nat_lit 249, k249) ::
 (nat_lit 255, k255) ::
 (nat_lit 256, k256) ::
 (nat_lit 262, k262) ::
 (nat_lit 263, k263) ::
 (nat_lit 265, k265 P) ::
 (nat_lit 266, k266) ::
 (nat_lit 281, k281) ::
 (nat_lit 282, k282) ::
 (nat_lit 288, k288) ::
 (nat_lit 289, k289) ::
 (nat_lit 295, k295) ::
 (nat_lit 296, k296) ::
 (nat_lit 298, k298 P) ::
 (nat_lit 299, k299) ::
 (nat_lit 314, k314) ::
 (nat_lit 315, k315) ::
 (nat_lit 321, k321) ::
 (nat_lit 322, k322) ::
 (nat_lit 328, k328) ::
 (nat_lit 329, k329) ::
 (nat_lit 335, k335) ::
 (nat_lit 336, k336) ::
 (nat_lit 338, k338 P) ::
 (nat_lit 339, k339) ::
 (nat_lit 354, k354) ::
 (nat_lit 355, k355) ::
 (nat_lit 361, k361) ::
 (nat_lit 362, k362) ::
 (nat_lit 368, k368) ::
 (nat_lit 369, k369) ::
 (nat_lit 375, k375) ::
 (nat_lit 376, k376) ::
 (nat_lit 378, k378 P) ::
 (nat_lit 379, k379) ::
 (nat_lit 394, k394) ::
 (nat_lit 395, k395) ::
 (nat_lit 401, k401) ::
 (nat_lit 402, k402) ::
 (nat_lit 408, k408) ::
 (nat_lit 409, k409) ::
 (nat_lit 415, k415) ::
 (nat_lit 416, k416) ::
 (nat_lit 418, k418 P) ::
 (nat_lit 419, k419) ::
 (nat_lit 434, k434) ::
 (nat_lit 435, k435) ::
 (nat_lit 441, k441) ::
 (nat_lit 442, k442) ::
 (nat_lit 444, k444 P) ::
 (nat_lit 445, k445) ::
 (nat_lit 453, k453) ::
 (nat_lit 454, k454) ::
 (nat_lit 460, k460) ::
 (nat_lit 461, k461) ::
 (nat_lit 467, k467) ::
 (nat_lit 468, k468) ::
 (nat_lit 474, k474) ::
 (nat_lit 475, k475) ::
 (nat_lit 481, k481) ::
 (nat_lit 482, k482) ::
 (nat_lit 488, k488) ::
 (nat_lit 489, k489) ::
 (nat_lit 495, k495) ::
 (nat_lit 496, k496) ::
 (nat_lit 502, k502) ::
 (nat_lit 503, k503) ::
 (nat_lit 516, k516) ::
 (nat_lit 517, k517) ::
 (nat_lit 523, k523) ::
 (nat_lit 524, k524) ::
 (nat_lit 530, k530) ::
 (nat_lit 531, k531) ::
 (nat_lit 537, k537) ::
 (nat_lit 538, k538) ::
 (nat_lit 544, k544) ::
 (nat_lit 545, k545) ::
 (nat_lit 551, k551) ::
 (nat_lit 552, k552) ::
 (nat_lit 558, k558) ::
 (nat_lit 559, k559) ::
 (nat_lit 565, k565) ::
 (nat_lit 566, k566) ::
 (nat_lit 572, k572) ::
 (nat_lit 573, k573) ::
 (nat_lit 579, k579) ::
 (nat_lit 580, k580) ::
 (nat_lit 586, k586) ::
 (nat_lit 587, k587) ::
 (nat_lit 593, k593) ::
 (nat_lit 594, k594) ::
 (nat_lit 600, k600) ::
 (nat_lit 601, k601) ::
 (nat_lit 603, k603 P) ::
 (nat_lit 604, k604) ::
 (nat_lit 605, k605) ::
 (nat_lit 606, k606) ::
 (nat_lit 621, k621) ::
 (nat_lit 622, k622) ::
 (nat_lit 628, k628) ::
 (nat_lit 629, k629) ::
 (nat_lit 635, k635) ::
 (nat_lit 636, k636) ::
 (nat_lit 642, k642) ::
 (nat_lit 643, k643) ::
 (nat_lit 649, k649) ::
 (nat_lit 650, k650) ::
 (nat_lit 656, k656) ::
 (nat_lit 657, k657) ::
 (nat_lit 663, k663) ::
 (nat_lit 664, k664) ::
 (nat_lit 670, k670) ::
 (nat_lit 671, k671) ::
 (nat_lit 677, k677) ::
 (nat_lit 678, k678) ::
 (nat_lit 684, k684) ::
 (nat_lit 685, k685) ::
 (nat_lit 691, k691) ::
 (nat_lit 692, k692) ::
 (nat_lit 694, k694 P) ::
 (nat_lit 695, k695) ::
 (nat_lit 696, k696) ::
 (nat_lit 697, k697) ::
 (nat_lit 705, k705) ::
 (nat_lit 706, k706) ::
 (nat_lit 710, k710) ::
 (nat_lit 711, k711) ::
 (nat_lit 715, k715) ::
 (nat_lit 716, k716) ::
 (nat_lit 729, k729) ::
 (nat_lit 730, k730) ::
 (nat_lit 734, k734) ::
 (nat_lit 735, k735) ::
 (nat_lit 739, k739) ::
 (nat_lit 740, k740) ::
 (nat_lit 746, k746) ::
 (nat_lit 747, k747) ::
 (nat_lit 753, k753) ::
 (nat_lit 754, k754) ::
 (nat_lit 760, k760) ::
 (nat_lit 761, k761) ::
 (nat_lit 763, k763 P) ::
 (nat_lit 764, k764) ::
 (nat_lit 765, k765) ::
 (nat_lit 766, k766) ::
 (nat_lit 781, k781) ::
 (nat_lit 782, k782) ::
 (nat_lit 786, k786) ::
 (nat_lit 787, k787) ::
 (nat_lit 793, k793) ::
 (nat_lit 794, k794) ::
 (nat_lit 800, k800) ::
 (nat_lit 801, k801) ::
 (nat_lit 803, k803 P) ::
 (nat_lit 804, k804) ::
 (nat_lit 805, k805) ::
 (nat_lit 806, k806) ::
 (nat_lit 814, k814) ::
 (nat_lit 815, k815) ::
 (nat_lit 821, k821) ::
 (nat_lit 822, k822) ::
 (nat_lit 828, k828) ::
 (nat_lit 829, k829) ::
 (nat_lit 835, k835) ::
 (nat_lit 836, k836) ::
 (nat_lit 840, k840) ::
 (nat_lit 841, k841) ::
 (nat_lit 845, k845) ::
 (nat_lit 846, k846) ::
 (nat_lit 852, k852) ::
 (nat_lit 853, k853) ::
 (nat_lit 859, k859) ::
 (nat_lit 860, k860) ::
 (nat_lit 864, k864) ::
 (nat_lit 865, k865) ::
 (nat_lit 871, k871) ::
 (nat_lit 872, k872) ::
 (nat_lit 876, k876) ::
 (nat_lit 877, k877) ::
 []
end
end Mine
set_option maxHeartbeats 0
namespace Hd
noncomputable section
open PySem PySem.W PySem.Calls PyProof.Rows Mine
noncomputable def put (t : BT) : Nat -> Obj -> BT := BT.rec (motive := fun _ => Nat -> Obj -> BT) (fun _ o => .node o .nil .nil) (fun v l r x y i o => match i with | 0 => .node o l r | j + 1 => bif Nat.beq (j % 2) 0 then .node v (x (j / 2) o) r else .node v l (y (j / 2) o)) t
noncomputable def Ff (t : BT) (l : List (Nat × Obj)) : BT := l.foldl (fun t p => put t p.1 p.2) t
noncomputable def fo (s : Stmt) (n q m : Str) (t c : Nat) : Obj := ⟨.type "function", none, .func { name := n, qualname := q, params := L2.d7 s, body := .stmts (L2.cU s), scope := L2.aD s, globals := 3, closure := [], defaults := .none, kwdefaults := .none, pyModule := .str m t, code := .ref c }, #[]⟩
noncomputable def pf (s : Stmt) (n q : Str) : Obj := ⟨.none, none, .func { name := n, qualname := q, params := L2.d7 s, body := .stmts (L2.cU s), scope := L2.aD s, globals := 0, closure := [], defaults := .none, kwdefaults := .none }, #[]⟩
noncomputable def tu (l : List Value) : Obj := ⟨.type "tuple", none, .seq l.toArray, #[]⟩
def eT : Obj := tu []
def eF : Obj := { cls := .none, data := .fields #[] }
noncomputable def co (n q : Str) (a b c : Nat) (l k : Int) (f r : Nat) (t : Bool) (g : Int) (u : Nat) (x y z : Value) (v : Nat) (m : Int) (e : Nat) : Obj := { cls := .type "code", data := .fields #[.str n a, .str q b, .str "/claim/cut.py" c, .int l 0, .int k 0, .int 0 0, .int 0 0, .int f 0, .ref r, .bool t, .int g 0, .ref u, x, y, z, .ref v, .int m 0, .int l 0, .str "/claim/cut.py" e] }
noncomputable def pl (t : BT) (a : Nat) (l : List Obj) : BT := List.rec (motive := fun _ => BT -> Nat -> BT) (fun t _ => t) (fun o _ f t a => f (put t a o) (a + 1)) l t a
noncomputable def fm (c d : Nat) (m : Value) : Obj := { cls := .type "frame", slots := #[some (.ref c), some (.ref 3), some (.ref d), none, some m, none, some (.ref 0)] }
noncomputable def su (x : Nat) : Obj := { cls := .type "super", data := .fields #[.ref x, .ref x, .ref x] }
noncomputable def ib (x : Nat) : Obj := { cls := .type "builtin_function_or_method", data := .fields #[.builtin "object.__init_subclass__", .ref x] }
noncomputable def cc (n : Str) (a : Nat) (l : Int) (r : Nat) (b : Int) : Obj := { cls := .type "code", data := .fields #[.str n a, .str n (a + 1), .str "/claim/cut.py" (a + 2), .int l 0, .int 0 0, .int 0 0, .int 0 0, .int 0 0, .ref r, .bool false, .int 181 0, .ref (r + 1), .none, .none, .none, .none, .int b 0, .int l 0, .str "/claim/cut.py" (a + 4)] }
noncomputable def di (P : Params) (m : Value) (n : Str) (a : Nat) (l : Int) (r : List DictEntry) (k : Nat) : Obj := { cls := .type "dict", data := .dict (List.toArray (ke P "__module__" a m :: ke P "__qualname__" (a + 2) (.str n (a + 1)) :: ke P "__firstlineno__" (a + 4) (.int l (a + 3)) :: r)) k }
noncomputable def f3 (a b : Int) (c : Nat) (r : List Value) : List Value := .int a 0 :: .int b 0 :: .ref c :: r
noncomputable def fl (l : List Value) : Obj := { cls := .none, data := .fields l.toArray }
noncomputable def tv (t : Nat) (l : List Str) : List Value := List.rec (motive := fun _ => Nat -> List Value) (fun _ => []) (fun x _ f t => .str x t :: f (t + 1)) l t
noncomputable def tw (t : Nat) (l : List Str) : Obj := tu (tv t l)
noncomputable def df (s : Stmt) (v c f : Obj) (r : List Obj) : List Obj := eT :: eF :: v :: eT :: pf s (nq true c) (nq false c) :: c :: f :: r
noncomputable def de (s : Stmt) (c f : Obj) (r : List Obj) : List Obj := eT :: eF :: pf s (nq true c) (nq false c) :: c :: f :: r
def env : Env := { scope := pw_drawhouse_k41_rows_of_one_part.main.scope, locals := mainNs, globals := mainNs, cells := [], code := Value.ref 13, frame := some 14 }
def cE : Code := .body (behindTheImports pw_drawhouse_k41_rows_of_one_part) env
def fr : List Frame := [topFrame { line := 0, col := 0, endLine := 0, endCol := 0 }]
noncomputable def sl (a n : Nat) : List Stmt := ((behindTheImports pw_drawhouse_k41_rows_of_one_part).drop a).take n
def o12 : Obj := fl (f3 1 0 20 (f3 5 0 27 (f3 7 0 40 (f3 12 0 59 (f3 17 0 78 (f3 22 0 97 (f3 27 0 116 (f3 32 0 135 (f3 37 0 154 (f3 46 0 173 (f3 48 0 178 (f3 51 0 185 (f3 54 0 192 (f3 61 0 199 (f3 69 0 206 (f3 79 0 241 (f3 90 0 274 (f3 101 0 307 (f3 115 0 347 (f3 129 0 387 (f3 144 0 427 (f3 152 0 453 (f3 157 0 460 (f3 168 0 467 (f3 176 0 474 (f3 187 0 481 (f3 197 0 488 (f3 202 0 495 (f3 209 0 502 (f3 220 0 509 (f3 297 0 614 (f3 348 0 705 (f3 351 0 710 (f3 353 0 715 (f3 364 0 722 (f3 388 0 774 (f3 409 0 814 (f3 413 0 821 (f3 417 0 828 (f3 421 0 835 (f3 430 0 840 (f3 447 0 845 (f3 452 0 852 (f3 467 0 859 (f3 477 0 864 (f3 498 0 871 (f3 507 0 876 [])))))))))))))))))))))))))))))))))))))))))))))))
def o23 : Obj := { cls := .type "builtin_function_or_method", data := .fields #[.builtin "type.__prepare__", .type "type"] }
variable (P : Params) (r : List Obj)
def hA0 : List Obj := boot_o_0 P :: boot_o_1 P :: boot_o_2 P :: boot_o_3 P :: boot_o_4 P :: boot_o_5 P :: boot_o_6 P :: boot_o_7 P :: boot_o_8 P :: boot_o_9 P :: boot_o_10 P :: eT :: eF :: cc "<module>" 182 1 11 185 :: fm 13 3 J5 :: r
def hA : Heap := ⟨Array.mk (hA0 P []), { }⟩
noncomputable def Lp (w : World) (os : OsState) : Option (Shared × Thread) := topGo treeTable pw_drawhouse_k41_rows_of_one_part w 11 (some (Value.ref 6)) 12 ⟨boot_heap w.params, Array.mk [], boot_drawn, boot_toks, os⟩ (topStub pw_drawhouse_k41_rows_of_one_part)
noncomputable def Rp (w : World) (os : OsState) : Option (Shared × Thread) := some (⟨hA w.params, Array.mk [], { }, nat_lit 187, os⟩, ⟨denote treeTable cE, cE, { line := 0, col := 0, endLine := 0, endCol := 0 }, fr⟩)
theorem rLp : Lp = Lp := rfl
name_quick Lp for Hd.Lp by Hd.rLp
theorem rRp : Rp = Rp := rfl
name_quick Rp for Hd.Rp by Hd.rRp
theorem qp : PySem.W.Fast.Lp = PySem.W.Fast.Rp := by kernel_rfl
theorem ep : Lp = Rp := PySem.W.Fast.Lp_eq.trans (qp.trans PySem.W.Fast.Rp_eq.symm)
def t0 : BT := pl .nil 0 (hA0 P [])
def Lb (w : World) (os : OsState) : Option (Flow × Shared × Code × Pos) := segRun treeTable pw_drawhouse_k41_rows_of_one_part w 11 (some (Value.ref 6)) 1 1 ⟨hA w.params, Array.mk [], { }, nat_lit 187, os⟩ (blockOf (behindTheImports pw_drawhouse_k41_rows_of_one_part) env cE { line := 0, col := 0, endLine := 0, endCol := 0 } fr)
def Rb (w : World) (os : OsState) : Option (Flow × Shared × Code × Pos) := some (.next, SharedT.abs ⟨t0 w.params, nat_lit 15, { }, Array.mk [], { }, nat_lit 187, os⟩, cE, { line := 0, col := 0, endLine := 0, endCol := 0 })
theorem rLb : Lb = Lb := rfl
name_quick Lb for Hd.Lb by Hd.rLb
theorem rRb : Rb = Rb := rfl
name_quick Rb for Hd.Rb by Hd.rRb
theorem qb : PySem.W.Fast.Lb = PySem.W.Fast.Rb := by kernel_rfl
theorem eb : Lb = Rb := PySem.W.Fast.Lb_eq.trans (qb.trans PySem.W.Fast.Rb_eq.symm)
def c0 : List Obj := boot_o_0 P :: boot_o_1 P :: boot_o_2 P :: k3 P :: boot_o_4 P :: boot_o_5 P :: boot_o_6 P :: boot_o_7 P :: boot_o_8 P :: boot_o_9 P :: boot_o_10 P :: eT :: o12 :: cc "<module>" 182 1 11 185 :: fm 13 3 J5 :: r
def c15 : List Obj := df (Mine.top 0) (tw 190 ["k"]) k20 k21 (tu [.type "ValueError"] :: o23 :: di P fZ "HouseError" 203 5 [ks P 208 29] 4 :: r)
def c25 : List Obj := eT :: eF :: cc "HouseError" 198 5 25 201 :: fm 27 24 fZ :: eT :: k30 P :: k31 :: k32 :: su 31 :: ib 31 :: r
def c35 : List Obj := tu [.ref 31] :: o23 :: di P fZ "TooMany" 221 7 [ki P 233 48, ks P 235 49] 5 :: eT :: fl (f3 9 4 47 []) :: cc "TooMany" 216 7 38 219 :: fm 40 37 fZ :: r
def c42 : List Obj := df (Mine.sb 3 0) (tw 229 ["self", "at"]) k47 k48 (tw 234 ["at"] :: k50 P :: k51 :: r)
def c52 : List Obj := su 51 :: ib 51 :: tu [.ref 31] :: o23 :: di P fZ "Double" 246 12 [ki P 258 67, ks P 260 68] 5 :: eT :: fl (f3 14 4 66 []) :: cc "Double" 241 12 57 244 :: fm 59 56 fZ :: r
def c61 : List Obj := df (Mine.sb 4 0) (tw 254 ["self", "at"]) k66 k67 (tw 259 ["at"] :: k69 P :: k70 :: r)
def c71 : List Obj := su 70 :: ib 70 :: tu [.ref 31] :: o23 :: di P fZ "Orphan" 271 17 [ki P 283 86, ks P 285 87] 5 :: eT :: fl (f3 19 4 85 []) :: cc "Orphan" 266 17 76 269 :: fm 78 75 fZ :: r
def c80 : List Obj := df (Mine.sb 5 0) (tw 279 ["self", "at"]) k85 k86 (tw 284 ["at"] :: k88 P :: k89 :: r)
def c90 : List Obj := su 89 :: ib 89 :: tu [.ref 31] :: o23 :: di P fZ "Clash" 296 22 [ki P 308 105, ks P 310 106] 5 :: eT :: fl (f3 24 4 104 []) :: cc "Clash" 291 22 95 294 :: fm 97 94 fZ :: r
def c99 : List Obj := df (Mine.sb 6 0) (tw 304 ["self", "at"]) k104 k105 (tw 309 ["at"] :: k107 P :: k108 :: r)
def QL : List Obj := su 108 :: ib 108 :: tu [.ref 31] :: o23 :: di P fZ "NoPart" 321 27 [ki P 333 124, ks P 335 125] 5 :: eT :: fl (f3 29 4 123 []) :: cc "NoPart" 316 27 114 319 :: fm 116 113 fZ :: r
def Qq : List Obj := df (Mine.sb 7 0) (tw 329 ["self", "address"]) k123 k124 (tw 334 ["address"] :: k126 P :: k127 :: r)
def QC (P : Params) (r : List Obj) : List Obj := su 127 :: ib 127 :: r
def C0 : List Obj := c15 P (c25 P (c35 P (c42 P (c52 P (c61 P (c71 P (c80 P (c90 P (c99 P (QL P (Qq P (QC P (r)))))))))))))
def t1 : BT := Ff (pl (t0 P) 15 (C0 P [])) ((3, { cls := .type "dict", data := .dict (List.toArray (ke P "__name__" 165 (.str "drawhouse.errors" 194) :: n0 P ([]))) 16 }) :: (12, fl (f3 1 0 20 (f3 5 0 27 (f3 7 0 40 (f3 12 0 59 (f3 17 0 78 (f3 22 0 97 (f3 27 0 116 [])))))))) :: (31, { cls := .type "type", data := .cls { name := Str.ofString "HouseError", bases := [.type "ValueError"], mro := [.ref 31, .type "ValueError", .type "Exception", .type "BaseException", .type "object"], ns := 30, qualname := Str.ofString "HouseError", subclasses := [.ref 51, .ref 70, .ref 89, .ref 108, .ref 127] }, slots := #[some (.ref 22), none, some (.str "HouseError" 196), some (.str "HouseError" 204), some (.builtin "ValueError.__new__"), some (.bool true)] }) :: [])
def L0 (w : World) (os : OsState) : Option (Flow × SharedT × Code × Pos) := segRunT treeTable pw_drawhouse_k41_rows_of_one_part w 11 (some (Value.ref 6)) 1 1450 ⟨t0 w.params, nat_lit 15, { }, Array.mk [], { }, nat_lit 187, os⟩ (piecesOf (sl 0 8) env cE { line := 0, col := 0, endLine := 0, endCol := 0 } fr)
def R0 (w : World) (os : OsState) : Option (Flow × SharedT × Code × Pos) := some (.next, ⟨t1 w.params, nat_lit 130, { }, Array.mk [], { }, nat_lit 339, os⟩, cE, { line := 27, col := 0, endLine := 31, endCol := 30 })
theorem rL0 : L0 = L0 := rfl
name_quick L0 for Hd.L0 by Hd.rL0
theorem rR0 : R0 = R0 := rfl
name_quick R0 for Hd.R0 by Hd.rR0
theorem q0 : PySem.W.Fast.L0 = PySem.W.Fast.R0 := by kernel_rfl
theorem e0 : L0 = R0 := PySem.W.Fast.L0_eq.trans (q0.trans PySem.W.Fast.R0_eq.symm)
def Pz : List Obj := tu [.ref 31] :: o23 :: di P fZ "NoName" 346 32 [ki P 358 143, ks P 360 144] 5 :: eT :: fl (f3 34 4 142 []) :: cc "NoName" 341 32 133 344 :: fm 135 132 fZ :: r
def Nz : List Obj := df (Mine.sb 8 0) (tw 354 ["self", "name"]) k142 k143 (tw 359 ["name"] :: k145 P :: k146 :: r)
def Np : List Obj := su 146 :: ib 146 :: tu [.ref 31] :: o23 :: di P fZ "Fault" 371 37 [ki P 386 162, ks P 391 163] 5 :: eT :: fl (f3 39 4 161 []) :: cc "Fault" 366 37 152 369 :: fm 154 151 fZ :: r
def Qn : List Obj := df (Mine.sb 9 0) (tw 379 ["self", "word", "trail", "whose", "name"]) k161 k162 (tw 387 ["name", "trail", "whose", "word"] :: k164 P :: k165 :: r)
def PN (P : Params) (r : List Obj) : List Obj := su 165 :: ib 165 :: df (Mine.top 11) (tw 400 ["thing"]) k173 k174 (r)
def M9 (P : Params) (r : List Obj) : List Obj := de (Mine.top 12) k178 k179 (r)
def NT (P : Params) (r : List Obj) : List Obj := df (Mine.top 13) (tw 413 ["address"]) k185 k186 (r)
def MN (P : Params) (r : List Obj) : List Obj := df (Mine.top 15) (tw 422 ["kind", "thing", "path"]) k192 k193 (r)
def Ph : List Obj := df (Mine.top 16) (tw 431 ["terms", "shown", "sign", "kind", "thing"]) k199 k200 (eT :: o23 :: di P cL "Row" 448 69 [ke P "binds" 459 (.ref 214), ke P "asked" 466 (.ref 221), ke P "said" 473 (.ref 228), ks P 474 229] 7 :: r)
def Qz (P : Params) (r : List Obj) : List Obj := eT :: fl (f3 71 4 213 (f3 74 4 220 (f3 77 4 227 []))) :: cc "Row" 443 69 204 446 :: fm 206 203 cL :: r
def MP (P : Params) (r : List Obj) : List Obj := df (Mine.sb 18 0) (tw 456 ["self"]) k213 k214 (r)
def Qa (P : Params) (r : List Obj) : List Obj := df (Mine.sb 18 1) (tw 463 ["self"]) k220 k221 (r)
def PJ : List Obj := df (Mine.sb 18 2) (tw 470 ["self"]) k227 k228 (eT :: k230 P :: k231 :: r)
def N6 : List Obj := k232 :: k233 :: su 231 :: ib 231 :: tu [.ref 231] :: o23 :: di P cL "Let" 489 79 [ki P 502 249, ke P "binds" 509 (.ref 256), ke P "said" 516 (.ref 263), ks P 519 264] 7 :: eT :: fl (f3 81 4 248 (f3 85 4 255 (f3 88 4 262 []))) :: cc "Let" 484 79 239 487 :: r
def Qy (P : Params) (r : List Obj) : List Obj := fm 241 238 cL :: df (Mine.sb 19 0) (tw 497 ["self", "name", "terms"]) k248 k249 (r)
def QQ (P : Params) (r : List Obj) : List Obj := df (Mine.sb 19 1) (tw 506 ["self"]) k255 k256 (r)
def Qs : List Obj := df (Mine.sb 19 2) (tw 513 ["self"]) k262 k263 (tw 517 ["name", "terms"] :: k265 P :: k266 :: r)
def O4 : List Obj := su 266 :: ib 266 :: tu [.ref 231] :: o23 :: di P cL "Deed" 530 90 [ki P 543 282, ke P "binds" 550 (.ref 289), ke P "said" 557 (.ref 296), ks P 560 297] 7 :: eT :: fl (f3 92 4 281 (f3 96 4 288 (f3 99 4 295 []))) :: cc "Deed" 525 90 272 528 :: fm 274 271 cL :: r
def Oz (P : Params) (r : List Obj) : List Obj := df (Mine.sb 20 0) (tw 538 ["self", "name", "terms"]) k281 k282 (r)
def My (P : Params) (r : List Obj) : List Obj := df (Mine.sb 20 1) (tw 547 ["self"]) k288 k289 (r)
def M6 : List Obj := df (Mine.sb 20 2) (tw 554 ["self"]) k295 k296 (tw 558 ["name", "terms"] :: k298 P :: k299 :: r)
def OJ (P : Params) (r : List Obj) : List Obj := su 299 :: ib 299 :: r
def C1 : List Obj := Pz P (Nz P (Np P (Qn P (PN P (M9 P (NT P (MN P (Ph P (Qz P (MP P (Qa P (PJ P (N6 P (Qy P (QQ P (Qs P (O4 P (Oz P (My P (M6 P (OJ P (r))))))))))))))))))))))
def t2 : BT := Ff (pl (t1 P) 130 (C1 P [])) ((3, { cls := .type "dict", data := .dict (List.toArray (ke P "__name__" 165 (.str "drawhouse.rows" 439) :: n0 P (n1 P ([])))) 26 }) :: (12, fl (f3 1 0 20 (f3 5 0 27 (f3 7 0 40 (f3 12 0 59 (f3 17 0 78 (f3 22 0 97 (f3 27 0 116 (f3 32 0 135 (f3 37 0 154 (f3 46 0 173 (f3 48 0 178 (f3 51 0 185 (f3 54 0 192 (f3 61 0 199 (f3 69 0 206 (f3 79 0 241 (f3 90 0 274 [])))))))))))))))))) :: (31, k31) :: (231, { cls := .type "type", data := .cls { name := Str.ofString "Row", bases := [.type "object"], mro := [.ref 231, .type "object"], ns := 230, qualname := Str.ofString "Row", subclasses := [.ref 266, .ref 299] }, slots := #[none, none, some (.str "Row" 441), some (.str "Row" 449), some (.builtin "object.__new__"), some (.bool true)] }) :: [])
def L1 (w : World) (os : OsState) : Option (Flow × SharedT × Code × Pos) := segRunT treeTable pw_drawhouse_k41_rows_of_one_part w 11 (some (Value.ref 6)) 1 1572 ⟨t1 w.params, nat_lit 130, { }, Array.mk [], { }, nat_lit 339, os⟩ (piecesOf (sl 8 13) env cE { line := 27, col := 0, endLine := 31, endCol := 30 } fr)
def R1 (w : World) (os : OsState) : Option (Flow × SharedT × Code × Pos) := some (.next, ⟨t2 w.params, nat_lit 302, { }, Array.mk [], { }, nat_lit 564, os⟩, cE, { line := 90, col := 0, endLine := 100, endCol := 16 })
theorem rL1 : L1 = L1 := rfl
name_quick L1 for Hd.L1 by Hd.rL1
theorem rR1 : R1 = R1 := rfl
name_quick R1 for Hd.R1 by Hd.rR1
theorem q1 : PySem.W.Fast.L1 = PySem.W.Fast.R1 := by kernel_rfl
theorem e1 : L1 = R1 := PySem.W.Fast.L1_eq.trans (q1.trans PySem.W.Fast.R1_eq.symm)
def Ol : List Obj := tu [.ref 231] :: o23 :: di P cL "Draw" 571 101 [ki P 584 315, ke P "binds" 591 (.ref 322), ke P "asked" 598 (.ref 329), ke P "said" 605 (.ref 336), ks P 608 337] 8 :: eT :: fl (f3 103 4 314 (f3 107 4 321 (f3 110 4 328 (f3 113 4 335 [])))) :: cc "Draw" 566 101 305 569 :: fm 307 304 cL :: r
def MK (P : Params) (r : List Obj) : List Obj := df (Mine.sb 21 0) (tw 579 ["self", "address", "name"]) k314 k315 (r)
def PB (P : Params) (r : List Obj) : List Obj := df (Mine.sb 21 1) (tw 588 ["self"]) k321 k322 (r)
def Oi (P : Params) (r : List Obj) : List Obj := df (Mine.sb 21 2) (tw 595 ["self"]) k328 k329 (r)
def Pn : List Obj := df (Mine.sb 21 3) (tw 602 ["self"]) k335 k336 (tw 606 ["address", "name"] :: k338 P :: k339 :: r)
def Qm : List Obj := su 339 :: ib 339 :: tu [.ref 231] :: o23 :: di P cL "Late" 619 115 [ki P 632 355, ke P "binds" 639 (.ref 362), ke P "asked" 646 (.ref 369), ke P "said" 653 (.ref 376), ks P 656 377] 8 :: eT :: fl (f3 117 4 354 (f3 121 4 361 (f3 124 4 368 (f3 127 4 375 [])))) :: cc "Late" 614 115 345 617 :: fm 347 344 cL :: r
def Ot (P : Params) (r : List Obj) : List Obj := df (Mine.sb 22 0) (tw 627 ["self", "address", "name"]) k354 k355 (r)
def NB (P : Params) (r : List Obj) : List Obj := df (Mine.sb 22 1) (tw 636 ["self"]) k361 k362 (r)
def Nx (P : Params) (r : List Obj) : List Obj := df (Mine.sb 22 2) (tw 643 ["self"]) k368 k369 (r)
def Mx : List Obj := df (Mine.sb 22 3) (tw 650 ["self"]) k375 k376 (tw 654 ["address", "name"] :: k378 P :: k379 :: r)
def QJ : List Obj := su 379 :: ib 379 :: tu [.ref 231] :: o23 :: di P cL "Take" 667 129 [ki P 681 395, ke P "binds" 688 (.ref 402), ke P "asked" 695 (.ref 409), ke P "said" 702 (.ref 416), ks P 706 417] 8 :: eT :: fl (f3 131 4 394 (f3 136 4 401 (f3 139 4 408 (f3 142 4 415 [])))) :: cc "Take" 662 129 385 665 :: fm 387 384 cL :: r
def M7 (P : Params) (r : List Obj) : List Obj := df (Mine.sb 23 0) (tw 675 ["self", "word", "address", "name"]) k394 k395 (r)
def Pg (P : Params) (r : List Obj) : List Obj := df (Mine.sb 23 1) (tw 685 ["self"]) k401 k402 (r)
def Qe (P : Params) (r : List Obj) : List Obj := df (Mine.sb 23 2) (tw 692 ["self"]) k408 k409 (r)
def P0 : List Obj := df (Mine.sb 23 3) (tw 699 ["self"]) k415 k416 (tw 703 ["address", "name", "word"] :: k418 P :: k419 :: r)
def Nt : List Obj := su 419 :: ib 419 :: tu [.ref 231] :: o23 :: di P cL "Need" 717 144 [ki P 729 435, ke P "said" 736 (.ref 442), ks P 738 443] 6 :: eT :: fl (f3 146 4 434 (f3 149 4 441 [])) :: cc "Need" 712 144 425 715 :: fm 427 424 cL :: r
def QH (P : Params) (r : List Obj) : List Obj := df (Mine.sb 24 0) (tw 725 ["self", "terms"]) k434 k435 (r)
def MF : List Obj := df (Mine.sb 24 1) (tw 733 ["self"]) k441 k442 (tw 737 ["terms"] :: k444 P :: k445 :: r)
def Nf (P : Params) (r : List Obj) : List Obj := su 445 :: ib 445 :: df (Mine.top 26) (tw 747 ["value"]) k453 k454 (r)
def Pj (P : Params) (r : List Obj) : List Obj := df (Mine.top 28) (tw 756 ["stand", "address", "path", "value", "whose", "name", "step"]) k460 k461 (r)
def N7 (P : Params) (r : List Obj) : List Obj := df (Mine.top 29) (tw 769 ["stand", "deed", "address", "name", "part", "value"]) k467 k468 (r)
def Ob (P : Params) (r : List Obj) : List Obj := df (Mine.top 30) (tw 781 ["stand", "address", "term", "kind", "thing", "value", "whose", "name"]) k474 k475 (r)
def Qo (P : Params) (r : List Obj) : List Obj := df (Mine.top 31) (tw 795 ["stand", "address", "terms", "total", "term", "value", "whose", "name"]) k481 k482 (r)
def Oj (P : Params) (r : List Obj) : List Obj := df (Mine.top 32) (tw 809 ["stand", "value"]) k488 k489 (r)
def Mw (P : Params) (r : List Obj) : List Obj := df (Mine.top 33) (tw 817 ["stand", "row", "beneath"]) k495 k496 (r)
def O5 (P : Params) (r : List Obj) : List Obj := df (Mine.top 34) (tw 826 ["stand", "address", "row"]) k502 k503 (r)
def C2 : List Obj := Ol P (MK P (PB P (Oi P (Pn P (Qm P (Ot P (NB P (Nx P (Mx P (QJ P (M7 P (Pg P (Qe P (P0 P (Nt P (QH P (MF P (Nf P (Pj P (N7 P (Ob P (Qo P (Oj P (Mw P (O5 P (r))))))))))))))))))))))))))
def t3 : BT := Ff (pl (t2 P) 302 (C2 P [])) ((3, { cls := .type "dict", data := .dict (List.toArray (ke P "__name__" 165 (.str "drawhouse.filling" 751) :: n0 P (n1 P (n2 P ([]))))) 38 }) :: (12, fl (f3 1 0 20 (f3 5 0 27 (f3 7 0 40 (f3 12 0 59 (f3 17 0 78 (f3 22 0 97 (f3 27 0 116 (f3 32 0 135 (f3 37 0 154 (f3 46 0 173 (f3 48 0 178 (f3 51 0 185 (f3 54 0 192 (f3 61 0 199 (f3 69 0 206 (f3 79 0 241 (f3 90 0 274 (f3 101 0 307 (f3 115 0 347 (f3 129 0 387 (f3 144 0 427 (f3 152 0 453 (f3 157 0 460 (f3 168 0 467 (f3 176 0 474 (f3 187 0 481 (f3 197 0 488 (f3 202 0 495 (f3 209 0 502 [])))))))))))))))))))))))))))))) :: (231, k231) :: [])
def L2 (w : World) (os : OsState) : Option (Flow × SharedT × Code × Pos) := segRunT treeTable pw_drawhouse_k41_rows_of_one_part w 11 (some (Value.ref 6)) 1 1579 ⟨t2 w.params, nat_lit 302, { }, Array.mk [], { }, nat_lit 564, os⟩ (piecesOf (sl 21 14) env cE { line := 90, col := 0, endLine := 100, endCol := 16 } fr)
def R2 (w : World) (os : OsState) : Option (Flow × SharedT × Code × Pos) := some (.next, ⟨t3 w.params, nat_lit 504, { }, Array.mk [], { }, nat_lit 832, os⟩, cE, { line := 209, col := 0, endLine := 219, endCol := 45 })
theorem rL2 : L2 = L2 := rfl
name_quick L2 for Hd.L2 by Hd.rL2
theorem rR2 : R2 = R2 := rfl
name_quick R2 for Hd.R2 by Hd.rR2
theorem q2 : PySem.W.Fast.L2 = PySem.W.Fast.R2 := by kernel_rfl
theorem e2 : L2 = R2 := PySem.W.Fast.L2_eq.trans (q2.trans PySem.W.Fast.R2_eq.symm)
def M3 : List Obj := eT :: o23 :: di P jB "Filling" 839 220 [ki P 851 517, ke P "copied" 860 (.ref 524), ke P "log" 867 (.ref 531), ke P "filled" 874 (.ref 538), ke P "names" 882 (.ref 545), ke P "touched" 890 (.ref 552), ke P "trail_now" 897 (.ref 559), ke P "note" 905 (.ref 566), ke P "touch" 913 (.ref 573), ke P "draw_step" 922 (.ref 580), ke P "fill_part" 932 (.ref 587), ke P "read_step" 943 (.ref 594), ke P "bind" 953 (.ref 601), ks P 960 602] 17 :: eT :: fl (f3 222 4 516 (f3 230 4 523 (f3 238 4 530 (f3 241 4 537 (f3 244 4 544 (f3 247 4 551 (f3 250 4 558 (f3 253 4 565 (f3 256 4 572 (f3 260 4 579 (f3 270 4 586 (f3 283 4 593 (f3 292 4 600 []))))))))))))) :: cc "Filling" 834 220 507 837 :: fm 509 506 jB :: r
def N5 (P : Params) (r : List Obj) : List Obj := df (Mine.sb 35 0) (tw 847 ["self", "house"]) k516 k517 (r)
def QF (P : Params) (r : List Obj) : List Obj := df (Mine.sb 35 1) (tw 855 ["self", "other", "address"]) k523 k524 (r)
def Py (P : Params) (r : List Obj) : List Obj := df (Mine.sb 35 2) (tw 864 ["self"]) k530 k531 (r)
def Ou (P : Params) (r : List Obj) : List Obj := df (Mine.sb 35 3) (tw 871 ["self"]) k537 k538 (r)
def QD (P : Params) (r : List Obj) : List Obj := df (Mine.sb 35 4) (tw 878 ["self", "address"]) k544 k545 (r)
def Ng (P : Params) (r : List Obj) : List Obj := df (Mine.sb 35 5) (tw 886 ["self", "address"]) k551 k552 (r)
def NK (P : Params) (r : List Obj) : List Obj := df (Mine.sb 35 6) (tw 894 ["self"]) k558 k559 (r)
def PK (P : Params) (r : List Obj) : List Obj := df (Mine.sb 35 7) (tw 901 ["self", "event"]) k565 k566 (r)
def O2 (P : Params) (r : List Obj) : List Obj := df (Mine.sb 35 8) (tw 909 ["self", "address"]) k572 k573 (r)
def Nh (P : Params) (r : List Obj) : List Obj := df (Mine.sb 35 9) (tw 917 ["self", "address", "prefix"]) k579 k580 (r)
def M5 (P : Params) (r : List Obj) : List Obj := df (Mine.sb 35 10) (tw 926 ["self", "address", "at", "row"]) k586 k587 (r)
def Nv (P : Params) (r : List Obj) : List Obj := df (Mine.sb 35 11) (tw 936 ["self", "address", "name", "unfilled", "value"]) k593 k594 (r)
def Oa : List Obj := df (Mine.sb 35 12) (tw 947 ["self", "address", "name", "value"]) k600 k601 (tw 954 ["begun", "ended", "events", "held", "house", "reach"] :: k603 P :: k604 :: r)
def O1 : List Obj := k605 :: k606 :: su 604 :: ib 604 :: eT :: o23 :: di P p8 "Shelf" 977 297 [ki P 989 622, ke P "draw" 998 (.ref 629), ke P "would_tell" 1006 (.ref 636), ke P "filled" 1013 (.ref 643), ke P "has_filled" 1021 (.ref 650), ke P "check_filled" 1029 (.ref 657), ke P "names" 1037 (.ref 664), ke P "means" 1048 (.ref 671), ke P "touched" 1056 (.ref 678), ke P "logs" 1063 (.ref 685), ke P "copied" 1071 (.ref 692), ks P 1075 693] 15 :: eT :: fl (f3 299 4 621 (f3 304 4 628 (f3 311 4 635 (f3 314 4 642 (f3 317 4 649 (f3 320 4 656 (f3 324 4 663 (f3 328 4 670 (f3 334 4 677 (f3 338 4 684 (f3 341 4 691 []))))))))))) :: cc "Shelf" 972 297 612 975 :: r
def NP (P : Params) (r : List Obj) : List Obj := fm 614 611 p8 :: df (Mine.sb 37 0) (tw 985 ["self", "house"]) k621 k622 (r)
def Ni (P : Params) (r : List Obj) : List Obj := df (Mine.sb 37 1) (tw 993 ["self", "address", "trial"]) k628 k629 (r)
def Nb (P : Params) (r : List Obj) : List Obj := df (Mine.sb 37 2) (tw 1002 ["self", "address"]) k635 k636 (r)
def Oe (P : Params) (r : List Obj) : List Obj := df (Mine.sb 37 3) (tw 1010 ["self"]) k642 k643 (r)
def Mz (P : Params) (r : List Obj) : List Obj := df (Mine.sb 37 4) (tw 1017 ["self", "address"]) k649 k650 (r)
def Qi (P : Params) (r : List Obj) : List Obj := df (Mine.sb 37 5) (tw 1025 ["self", "address"]) k656 k657 (r)
def O6 (P : Params) (r : List Obj) : List Obj := df (Mine.sb 37 6) (tw 1033 ["self", "address"]) k663 k664 (r)
def M8 (P : Params) (r : List Obj) : List Obj := df (Mine.sb 37 7) (tw 1041 ["self", "address", "name", "one", "value"]) k670 k671 (r)
def Ox (P : Params) (r : List Obj) : List Obj := df (Mine.sb 37 8) (tw 1052 ["self", "address"]) k677 k678 (r)
def Ql (P : Params) (r : List Obj) : List Obj := df (Mine.sb 37 9) (tw 1060 ["self"]) k684 k685 (r)
def Px : List Obj := df (Mine.sb 37 10) (tw 1067 ["self", "other"]) k691 k692 (tw 1072 ["drawn", "house", "stand"] :: k694 P :: k695 :: r)
def Qh (P : Params) (r : List Obj) : List Obj := k696 :: k697 :: su 695 :: ib 695 :: r
def O3 (P : Params) (r : List Obj) : List Obj := df (Mine.top 40) (tw 1090 ["part", "addresses", "parent"]) k705 k706 (r)
def Nk (P : Params) (r : List Obj) : List Obj := de (Mine.top 41) k710 k711 (de (Mine.top 42) k715 k716 (r))
def C3 : List Obj := M3 P (N5 P (QF P (Py P (Ou P (QD P (Ng P (NK P (PK P (O2 P (Nh P (M5 P (Nv P (Oa P (O1 P (NP P (Ni P (Nb P (Oe P (Mz P (Qi P (O6 P (M8 P (Ox P (Ql P (Px P (Qh P (O3 P (Nk P (r)))))))))))))))))))))))))))))
def t4 : BT := Ff (pl (t3 P) 504 (C3 P [])) ((3, { cls := .type "dict", data := .dict (List.toArray (ke P "__name__" 165 (.str "drawhouse.house" 1083) :: n0 P (n1 P (n2 P (n3 P ([])))))) 44 }) :: (12, fl (f3 1 0 20 (f3 5 0 27 (f3 7 0 40 (f3 12 0 59 (f3 17 0 78 (f3 22 0 97 (f3 27 0 116 (f3 32 0 135 (f3 37 0 154 (f3 46 0 173 (f3 48 0 178 (f3 51 0 185 (f3 54 0 192 (f3 61 0 199 (f3 69 0 206 (f3 79 0 241 (f3 90 0 274 (f3 101 0 307 (f3 115 0 347 (f3 129 0 387 (f3 144 0 427 (f3 152 0 453 (f3 157 0 460 (f3 168 0 467 (f3 176 0 474 (f3 187 0 481 (f3 197 0 488 (f3 202 0 495 (f3 209 0 502 (f3 220 0 509 (f3 297 0 614 (f3 348 0 705 (f3 351 0 710 (f3 353 0 715 []))))))))))))))))))))))))))))))))))) :: [])
def L3 (w : World) (os : OsState) : Option (Flow × SharedT × Code × Pos) := segRunT treeTable pw_drawhouse_k41_rows_of_one_part w 11 (some (Value.ref 6)) 1 1274 ⟨t3 w.params, nat_lit 504, { }, Array.mk [], { }, nat_lit 832, os⟩ (piecesOf (sl 35 8) env cE { line := 209, col := 0, endLine := 219, endCol := 45 } fr)
def R3 (w : World) (os : OsState) : Option (Flow × SharedT × Code × Pos) := some (.next, ⟨t4 w.params, nat_lit 717, { }, Array.mk [], { }, nat_lit 1108, os⟩, cE, { line := 353, col := 0, endLine := 363, endCol := 27 })
theorem rL3 : L3 = L3 := rfl
name_quick L3 for Hd.L3 by Hd.rL3
theorem rR3 : R3 = R3 := rfl
name_quick R3 for Hd.R3 by Hd.rR3
theorem q3 : PySem.W.Fast.L3 = PySem.W.Fast.R3 := by kernel_rfl
theorem e3 : L3 = R3 := PySem.W.Fast.L3_eq.trans (q3.trans PySem.W.Fast.R3_eq.symm)
def Qd : List Obj := eT :: o23 :: di P nC "House" 1115 364 [ki P 1127 730, ke P "addresses" 1133 (.ref 735), ke P "has" 1139 (.ref 740), ke P "part" 1148 (.ref 747), ke P "with_part" 1156 (.ref 754), ke P "without" 1164 (.ref 761), ks P 1166 762] 10 :: eT :: fl (f3 366 4 729 (f3 370 4 734 (f3 373 4 739 (f3 376 4 746 (f3 382 4 753 (f3 385 4 760 [])))))) :: cc "House" 1110 364 720 1113 :: fm 722 719 nC :: r
def O8 (P : Params) (r : List Obj) : List Obj := df (Mine.sb 43 0) (tw 1123 ["self", "parts"]) k729 k730 (r)
def QG (P : Params) (r : List Obj) : List Obj := de (Mine.sb 43 1) k734 k735 (de (Mine.sb 43 2) k739 k740 (r))
def Pq (P : Params) (r : List Obj) : List Obj := df (Mine.sb 43 3) (tw 1143 ["self", "address", "part"]) k746 k747 (r)
def Pu (P : Params) (r : List Obj) : List Obj := df (Mine.sb 43 4) (tw 1152 ["self", "part"]) k753 k754 (r)
def Ov : List Obj := df (Mine.sb 43 5) (tw 1160 ["self", "address"]) k760 k761 (tw 1165 ["told"] :: k763 P :: k764 :: r)
def Qg : List Obj := k765 :: k766 :: su 764 :: ib 764 :: eT :: o23 :: di P uM "Part" 1183 388 [ki P 1196 782, ke P "bound" 1202 (.ref 787), ke P "place_of" 1212 (.ref 794), ke P "text" 1219 (.ref 801), ks P 1222 802] 8 :: eT :: fl (f3 390 4 781 (f3 394 4 786 (f3 398 4 793 (f3 406 4 800 [])))) :: cc "Part" 1178 388 772 1181 :: r
def PX (P : Params) (r : List Obj) : List Obj := fm 774 771 uM :: df (Mine.sb 45 0) (tw 1191 ["self", "address", "rows"]) k781 k782 (r)
def Qu (P : Params) (r : List Obj) : List Obj := de (Mine.sb 45 1) k786 k787 (r)
def M4 (P : Params) (r : List Obj) : List Obj := df (Mine.sb 45 2) (tw 1206 ["self", "name", "at", "row"]) k793 k794 (r)
def Og : List Obj := df (Mine.sb 45 3) (tw 1216 ["self"]) k800 k801 (tw 1220 ["address", "rows"] :: k803 P :: k804 :: r)
def Pb (P : Params) (r : List Obj) : List Obj := k805 :: k806 :: su 804 :: ib 804 :: r
def Nj (P : Params) (r : List Obj) : List Obj := df (Mine.top 47) (tw 1235 ["_law_script", "_law_k"]) k814 k815 (r)
def NQ (P : Params) (r : List Obj) : List Obj := df (Mine.top 48) (tw 1243 ["_law_cell_here", "_law_j"]) k821 k822 (r)
def Oc (P : Params) (r : List Obj) : List Obj := df (Mine.top 49) (tw 1251 ["_law_cell_here", "_law_far"]) k828 k829 (r)
def Nq (P : Params) (r : List Obj) : List Obj := df (Mine.top 50) (tw 1259 ["_law_cell_here", "_law_k", "_law_many", "_law_great", "_law_by", "_law_other", "_law_one"]) k835 k836 (r)
def Oo (P : Params) (r : List Obj) : List Obj := de (Mine.top 51) k840 k841 (de (Mine.top 52) k845 k846 (r))
def O9 (P : Params) (r : List Obj) : List Obj := df (Mine.top 53) (tw 1284 ["_law_known", "_law_cell_here", "_law_calls", "_law_terms_here", "_law_k", "_law_one", "_law_sign", "_law_name", "_law_deed", "_law_way"]) k852 k853 (r)
def Qv (P : Params) (r : List Obj) : List Obj := df (Mine.top 54) (tw 1300 ["_law_known", "_law_terms_here", "_law_total", "_law_sign", "_law_sort", "_law_thing", "_law_value"]) k859 k860 (r)
def Pa (P : Params) (r : List Obj) : List Obj := de (Mine.top 55) k864 k865 (r)
def Qx (P : Params) (r : List Obj) : List Obj := df (Mine.top 56) (tw 1319 ["_law_shelf", "_law_address", "_law_due", "_law_found", "_law_name", "_law_value", "_law_told"]) k871 k872 (r)
def Nu (P : Params) (r : List Obj) : List Obj := de (Mine.top 57) k876 k877 (r)
def C4 : List Obj := Qd P (O8 P (QG P (Pq P (Pu P (Ov P (Qg P (PX P (Qu P (M4 P (Og P (Pb P (Nj P (NQ P (Oc P (Nq P (Oo P (O9 P (Qv P (Pa P (Qx P (Nu P (r))))))))))))))))))))))
def t5 : BT := Ff (pl (t4 P) 717 (C4 P [])) ((3, k3 P) :: (12, o12) :: [])
def L4 (w : World) (os : OsState) : Option (Flow × SharedT × Code × Pos) := segRunT treeTable pw_drawhouse_k41_rows_of_one_part w 11 (some (Value.ref 6)) 1 1048 ⟨t4 w.params, nat_lit 717, { }, Array.mk [], { }, nat_lit 1108, os⟩ (piecesOf (sl 43 15) env cE { line := 353, col := 0, endLine := 363, endCol := 27 } fr)
def R4 (w : World) (os : OsState) : Option (Flow × SharedT × Code × Pos) := some (.next, ⟨t5 w.params, nat_lit 878, { }, Array.mk [], { }, nat_lit 1335, os⟩, cE, { line := 507, col := 0, endLine := 528, endCol := 15 })
theorem rL4 : L4 = L4 := rfl
name_quick L4 for Hd.L4 by Hd.rL4
theorem rR4 : R4 = R4 := rfl
name_quick R4 for Hd.R4 by Hd.rR4
theorem q4 : PySem.W.Fast.L4 = PySem.W.Fast.R4 := by kernel_rfl
theorem e4 : L4 = R4 := PySem.W.Fast.L4_eq.trans (q4.trans PySem.W.Fast.R4_eq.symm)
def hF : Heap := ⟨Array.mk (c0 P (C0 P (C1 P (C2 P (C3 P (C4 P ([]))))))), { }⟩
def Lf (w : World) (os : OsState) : Option Shared := topRun treeTable pw_drawhouse_k41_rows_of_one_part w 11 (some (Value.ref 6)) 2 (SharedT.abs ⟨t5 w.params, nat_lit 878, { }, Array.mk [], { }, nat_lit 1335, os⟩) ⟨doneF .next, cE, { line := 507, col := 0, endLine := 528, endCol := 15 }, fr⟩
def Rf (w : World) (os : OsState) : Option Shared := some ⟨hF w.params, Array.mk [], { }, nat_lit 1335, os⟩
theorem rLf : Lf = Lf := rfl
name_quick Lf for Hd.Lf by Hd.rLf
theorem rRf : Rf = Rf := rfl
name_quick Rf for Hd.Rf by Hd.rRf
theorem qf : PySem.W.Fast.Lf = PySem.W.Fast.Rf := by kernel_rfl
theorem ef : Lf = Rf := PySem.W.Fast.Lf_eq.trans (qf.trans PySem.W.Fast.Rf_eq.symm)
theorem ed : (behindTheImports pw_drawhouse_k41_rows_of_one_part).drop 58 = [] := by kernel_rfl
theorem pd {w : World} {k m n N : Nat} {s s' r : Shared} {c : Code} {pos p' : Pos} (h : segRun treeTable pw_drawhouse_k41_rows_of_one_part w 11 (some (Value.ref 6)) 1 n s (piecesOf (sl k m) env c pos fr) = some (.next, s', c, p'))
  (k2 : topRun treeTable pw_drawhouse_k41_rows_of_one_part w 11 (some (Value.ref 6)) N s' (restOf ((behindTheImports pw_drawhouse_k41_rows_of_one_part).drop (k + m)) env c p' fr) = some r) : topRun treeTable pw_drawhouse_k41_rows_of_one_part w 11 (some (Value.ref 6)) (n + N) s (restOf ((behindTheImports pw_drawhouse_k41_rows_of_one_part).drop k) env c pos fr) = some r := by
 have z := piece_app h k2
 have e : sl k m ++ (behindTheImports pw_drawhouse_k41_rows_of_one_part).drop (k + m) = (behindTheImports pw_drawhouse_k41_rows_of_one_part).drop k := by
  unfold sl
  rw [<- List.drop_drop]
  exact List.take_append_drop m _
 rwa [e] at z
theorem run (w : World) (os : OsState) : topRun treeTable pw_drawhouse_k41_rows_of_one_part w 11 (some (Value.ref 6)) (12 + (1 + (1450 + (1572 + (1579 + (1274 + (1048 + (2)))))))) ⟨boot_heap w.params, Array.mk [], boot_drawn, boot_toks, os⟩ (topStub pw_drawhouse_k41_rows_of_one_part) = some ⟨hF w.params, Array.mk [], { }, nat_lit 1335, os⟩ :=
 go_top (congrFun (congrFun ep w) os) (piece_block (congrFun (congrFun eb w) os)
  (pd (k := 0) (m := 8) (segRun_of (congrFun (congrFun e0 w) os))
  (pd (k := 8) (m := 13) (segRun_of (congrFun (congrFun e1 w) os))
  (pd (k := 21) (m := 14) (segRun_of (congrFun (congrFun e2 w) os))
  (pd (k := 35) (m := 8) (segRun_of (congrFun (congrFun e3 w) os))
  (pd (k := 43) (m := 15) (segRun_of (congrFun (congrFun e4 w) os))
  (by rw [show 43 + 15 = 58 from rfl, ed]; exact piece_nil (congrFun (congrFun ef w) os))))))))
def qv : Program := { pw_drawhouse_k41_rows_of_one_part with main := { pw_drawhouse_k41_rows_of_one_part.main with body := (0 :: 2 :: 3 :: 4 :: 5 :: 6 :: 7 :: 8 :: 9 :: 11 :: 12 :: 13 :: 15 :: 16 :: 18 :: 19 :: 20 :: 21 :: 22 :: 23 :: 24 :: 26 :: 28 :: 29 :: 30 :: 31 :: 32 :: 33 :: 34 :: 35 :: 37 :: 39 :: 40 :: 41 :: 42 :: 43 :: 45 :: 47 :: 48 :: 49 :: 50 :: 51 :: 52 :: 53 :: 54 :: 55 :: 56 :: 57 :: []).filterMap fun i => pw_drawhouse_k41_rows_of_one_part.main.body[i]? } }
def loose : List Str := []
def lv : List (Str × WData) := []
def rz : OpenLaw := { prog := pw_drawhouse_k41_rows_of_one_part, name := (PySem.Str.ofString "law"), about := [(PySem.Str.ofString "Shelf"), (PySem.Str.ofString "names")], foot := 11, most := some 63, bound := none, writes := false }
def xt (s : Shared) : Bool := xlAt qv lv s && recOk (RowW.records (OpenRow.toRowW (OpenLaw.row rz))) s
def as : List Addr := nat_lit 2 :: nat_lit 3 :: nat_lit 20 :: nat_lit 21 :: nat_lit 30 :: nat_lit 31 :: nat_lit 32 :: nat_lit 47 :: nat_lit 48 :: nat_lit 50 :: nat_lit 51 :: nat_lit 66 :: nat_lit 67 :: nat_lit 69 :: nat_lit 70 :: nat_lit 85 :: nat_lit 86 :: nat_lit 88 :: nat_lit 89 :: nat_lit 104 :: nat_lit 105 :: nat_lit 107 :: nat_lit 108 :: nat_lit 123 :: nat_lit 124 :: nat_lit 126 :: nat_lit 127 :: nat_lit 142 :: nat_lit 143 :: nat_lit 145 :: nat_lit 146 :: nat_lit 161 :: nat_lit 162 :: nat_lit 164 :: nat_lit 165 :: nat_lit 173 :: nat_lit 174 :: nat_lit 178 :: nat_lit 179 :: nat_lit 185 :: nat_lit 186 :: nat_lit 192 :: nat_lit 193 :: nat_lit 199 :: nat_lit 200 :: nat_lit 213 :: nat_lit 214 :: nat_lit 220 :: nat_lit 221 :: nat_lit 227 :: nat_lit 228 :: nat_lit 230 :: nat_lit 231 :: nat_lit 232 :: nat_lit 233 :: nat_lit 248 :: nat_lit 249 :: nat_lit 255 :: nat_lit 256 :: nat_lit 262 :: nat_lit 263 :: nat_lit 265 :: nat_lit 266 :: nat_lit 281 :: nat_lit 282 :: nat_lit 288 :: nat_lit 289 :: nat_lit 295 :: nat_lit 296 :: nat_lit 298 :: nat_lit 299 :: nat_lit 314 :: nat_lit 315 :: nat_lit 321 :: nat_lit 322 :: nat_lit 328 :: nat_lit 329 :: nat_lit 335 :: nat_lit 336 :: nat_lit 338 :: nat_lit 339 :: nat_lit 354 :: nat_lit 355 :: nat_lit 361 :: nat_lit 362 :: nat_lit 368 :: nat_lit 369 :: nat_lit 375 :: nat_lit 376 :: nat_lit 378 :: nat_lit 379 :: nat_lit 394 :: nat_lit 395 :: nat_lit 401 :: nat_lit 402 :: nat_lit 408 :: nat_lit 409 :: nat_lit 415 :: nat_lit 416 :: nat_lit 418 :: nat_lit 419 :: nat_lit 434 :: nat_lit 435 :: nat_lit 441 :: nat_lit 442 :: nat_lit 444 :: nat_lit 445 :: nat_lit 453 :: nat_lit 454 :: nat_lit 460 :: nat_lit 461 :: nat_lit 467 :: nat_lit 468 :: nat_lit 474 :: nat_lit 475 :: nat_lit 481 :: nat_lit 482 :: nat_lit 488 :: nat_lit 489 :: nat_lit 495 :: nat_lit 496 :: nat_lit 502 :: nat_lit 503 :: nat_lit 516 :: nat_lit 517 :: nat_lit 523 :: nat_lit 524 :: nat_lit 530 :: nat_lit 531 :: nat_lit 537 :: nat_lit 538 :: nat_lit 544 :: nat_lit 545 :: nat_lit 551 :: nat_lit 552 :: nat_lit 558 :: nat_lit 559 :: nat_lit 565 :: nat_lit 566 :: nat_lit 572 :: nat_lit 573 :: nat_lit 579 :: nat_lit 580 :: nat_lit 586 :: nat_lit 587 :: nat_lit 593 :: nat_lit 594 :: nat_lit 600 :: nat_lit 601 :: nat_lit 603 :: nat_lit 604 :: nat_lit 605 :: nat_lit 606 :: nat_lit 621 :: nat_lit 622 :: nat_lit 628 :: nat_lit 629 :: nat_lit 635 :: nat_lit 636 :: nat_lit 642 :: nat_lit 643 :: nat_lit 649 :: nat_lit 650 :: nat_lit 656 :: nat_lit 657 :: nat_lit 663 :: nat_lit 664 :: nat_lit 670 :: nat_lit 671 :: nat_lit 677 :: nat_lit 678 :: nat_lit 684 :: nat_lit 685 :: nat_lit 691 :: nat_lit 692 :: nat_lit 694 :: nat_lit 695 :: nat_lit 696 :: nat_lit 697 :: nat_lit 705 :: nat_lit 706 :: nat_lit 710 :: nat_lit 711 :: nat_lit 715 :: nat_lit 716 :: nat_lit 729 :: nat_lit 730 :: nat_lit 734 :: nat_lit 735 :: nat_lit 739 :: nat_lit 740 :: nat_lit 746 :: nat_lit 747 :: nat_lit 753 :: nat_lit 754 :: nat_lit 760 :: nat_lit 761 :: nat_lit 763 :: nat_lit 764 :: nat_lit 765 :: nat_lit 766 :: nat_lit 781 :: nat_lit 782 :: nat_lit 786 :: nat_lit 787 :: nat_lit 793 :: nat_lit 794 :: nat_lit 800 :: nat_lit 801 :: nat_lit 803 :: nat_lit 804 :: nat_lit 805 :: nat_lit 806 :: nat_lit 814 :: nat_lit 815 :: nat_lit 821 :: nat_lit 822 :: nat_lit 828 :: nat_lit 829 :: nat_lit 835 :: nat_lit 836 :: nat_lit 840 :: nat_lit 841 :: nat_lit 845 :: nat_lit 846 :: nat_lit 852 :: nat_lit 853 :: nat_lit 859 :: nat_lit 860 :: nat_lit 864 :: nat_lit 865 :: nat_lit 871 :: nat_lit 872 :: nat_lit 876 :: nat_lit 877 :: []
theorem ke (P : Params) : as = (Mine.myK P).map (·.1) := by kernel_rfl
def Ls (w : World) : Bool × Nat × Option Value := ((boot_heap w.params).isNs mainGlobals && (Array.mk [] : Array GenState).size == 0, (boot_heap w.params).objs.size, (boot_heap w.params).nsMap mainGlobals "__annotations__")
def Rs (w : World) : Bool × Nat × Option Value := (true, 11, some (Value.ref 6))
theorem es : Ls = Rs := by kernel_rfl
def Lk0 (w : World) (os : OsState) : Bool := staticsOk (importedModules pw_drawhouse_k41_rows_of_one_part.main.body) (boot_heap w.params) (hF w.params) && namesBound pw_drawhouse_k41_rows_of_one_part (hF w.params) && gensDone ⟨hF w.params, Array.mk [], { }, nat_lit 1335, os⟩ && laidKept (boot_heap w.params) (hF w.params)
def Rk0 (_ : World) (_ : OsState) : Bool := true
theorem rLk0 : Lk0 = Lk0 := rfl
name_quick Lk0 for Hd.Lk0 by Hd.rLk0
theorem qk0 : PySem.W.Fast.Lk0 = Rk0 := by kernel_rfl
theorem ek0 : Lk0 = Rk0 := PySem.W.Fast.Lk0_eq.trans qk0
def Lk1 (w : World) (os : OsState) := (openSeen qv loose (importedModules pw_drawhouse_k41_rows_of_one_part.main.body) xt true ⟨hF w.params, Array.mk [], { }, nat_lit 1335, os⟩).1
def Rk1 (_ : World) (_ : OsState) := (openGood qv loose).1
theorem rLk1 : Lk1 = Lk1 := rfl
name_quick Lk1 for Hd.Lk1 by Hd.rLk1
theorem rRk1 : Rk1 = Rk1 := rfl
name_quick Rk1 for Hd.Rk1 by Hd.rRk1
theorem qk1 : PySem.W.Fast.Lk1 = PySem.W.Fast.Rk1 := by kernel_rfl
theorem ek1 : Lk1 = Rk1 := PySem.W.Fast.Lk1_eq.trans (qk1.trans PySem.W.Fast.Rk1_eq.symm)
def Lk2 (w : World) (os : OsState) := (openSeen qv loose (importedModules pw_drawhouse_k41_rows_of_one_part.main.body) xt true ⟨hF w.params, Array.mk [], { }, nat_lit 1335, os⟩).2.1
def Rk2 (_ : World) (_ : OsState) := (openGood qv loose).2.1
theorem rLk2 : Lk2 = Lk2 := rfl
name_quick Lk2 for Hd.Lk2 by Hd.rLk2
theorem qk2 : PySem.W.Fast.Lk2 = Rk2 := by kernel_rfl
theorem ek2 : Lk2 = Rk2 := PySem.W.Fast.Lk2_eq.trans qk2
def Lk3 (w : World) (os : OsState) := (openSeen qv loose (importedModules pw_drawhouse_k41_rows_of_one_part.main.body) xt true ⟨hF w.params, Array.mk [], { }, nat_lit 1335, os⟩).2.2.1
def Rk3 (_ : World) (_ : OsState) := (openGood qv loose).2.2.1
theorem rLk3 : Lk3 = Lk3 := rfl
name_quick Lk3 for Hd.Lk3 by Hd.rLk3
theorem qk3 : PySem.W.Fast.Lk3 = Rk3 := by kernel_rfl
theorem ek3 : Lk3 = Rk3 := PySem.W.Fast.Lk3_eq.trans qk3
def Lk4 (w : World) (os : OsState) := (openSeen qv loose (importedModules pw_drawhouse_k41_rows_of_one_part.main.body) xt true ⟨hF w.params, Array.mk [], { }, nat_lit 1335, os⟩).2.2.2.1
def Rk4 (_ : World) (_ : OsState) := (openGood qv loose).2.2.2.1
theorem rLk4 : Lk4 = Lk4 := rfl
name_quick Lk4 for Hd.Lk4 by Hd.rLk4
theorem qk4 : PySem.W.Fast.Lk4 = Rk4 := by kernel_rfl
theorem ek4 : Lk4 = Rk4 := PySem.W.Fast.Lk4_eq.trans qk4
def Lk5 (w : World) (os : OsState) := (openSeen qv loose (importedModules pw_drawhouse_k41_rows_of_one_part.main.body) xt true ⟨hF w.params, Array.mk [], { }, nat_lit 1335, os⟩).2.2.2.2.1
def Rk5 (_ : World) (_ : OsState) := (openGood qv loose).2.2.2.2.1
theorem rLk5 : Lk5 = Lk5 := rfl
name_quick Lk5 for Hd.Lk5 by Hd.rLk5
theorem rRk5 : Rk5 = Rk5 := rfl
name_quick Rk5 for Hd.Rk5 by Hd.rRk5
theorem qk5 : PySem.W.Fast.Lk5 = PySem.W.Fast.Rk5 := by kernel_rfl
theorem ek5 : Lk5 = Rk5 := PySem.W.Fast.Lk5_eq.trans (qk5.trans PySem.W.Fast.Rk5_eq.symm)
def Lk6 (w : World) (os : OsState) := (openSeen qv loose (importedModules pw_drawhouse_k41_rows_of_one_part.main.body) xt true ⟨hF w.params, Array.mk [], { }, nat_lit 1335, os⟩).2.2.2.2.2.1
def Rk6 (_ : World) (_ : OsState) := (openGood qv loose).2.2.2.2.2.1
theorem rLk6 : Lk6 = Lk6 := rfl
name_quick Lk6 for Hd.Lk6 by Hd.rLk6
theorem rRk6 : Rk6 = Rk6 := rfl
name_quick Rk6 for Hd.Rk6 by Hd.rRk6
theorem qk6 : PySem.W.Fast.Lk6 = PySem.W.Fast.Rk6 := by kernel_rfl
theorem ek6 : Lk6 = Rk6 := PySem.W.Fast.Lk6_eq.trans (qk6.trans PySem.W.Fast.Rk6_eq.symm)
def Lk7 (w : World) (os : OsState) := (openSeen qv loose (importedModules pw_drawhouse_k41_rows_of_one_part.main.body) xt true ⟨hF w.params, Array.mk [], { }, nat_lit 1335, os⟩).2.2.2.2.2.2.1
def Rk7 (_ : World) (_ : OsState) := (openGood qv loose).2.2.2.2.2.2.1
theorem rLk7 : Lk7 = Lk7 := rfl
name_quick Lk7 for Hd.Lk7 by Hd.rLk7
theorem rRk7 : Rk7 = Rk7 := rfl
name_quick Rk7 for Hd.Rk7 by Hd.rRk7
theorem qk7 : PySem.W.Fast.Lk7 = PySem.W.Fast.Rk7 := by kernel_rfl
theorem ek7 : Lk7 = Rk7 := PySem.W.Fast.Lk7_eq.trans (qk7.trans PySem.W.Fast.Rk7_eq.symm)
def Lk8 (w : World) (os : OsState) := (openSeen qv loose (importedModules pw_drawhouse_k41_rows_of_one_part.main.body) xt true ⟨hF w.params, Array.mk [], { }, nat_lit 1335, os⟩).2.2.2.2.2.2.2.1
def Rk8 (_ : World) (_ : OsState) := (openGood qv loose).2.2.2.2.2.2.2.1
theorem rLk8 : Lk8 = Lk8 := rfl
name_quick Lk8 for Hd.Lk8 by Hd.rLk8
theorem rRk8 : Rk8 = Rk8 := rfl
name_quick Rk8 for Hd.Rk8 by Hd.rRk8
theorem qk8 : PySem.W.Fast.Lk8 = PySem.W.Fast.Rk8 := by kernel_rfl
theorem ek8 : Lk8 = Rk8 := PySem.W.Fast.Lk8_eq.trans (qk8.trans PySem.W.Fast.Rk8_eq.symm)
def Lk9 (w : World) (os : OsState) := (openSeen qv loose (importedModules pw_drawhouse_k41_rows_of_one_part.main.body) xt true ⟨hF w.params, Array.mk [], { }, nat_lit 1335, os⟩).2.2.2.2.2.2.2.2
def Rk9 (_ : World) (_ : OsState) := (openGood qv loose).2.2.2.2.2.2.2.2
theorem rLk9 : Lk9 = Lk9 := rfl
name_quick Lk9 for Hd.Lk9 by Hd.rLk9
theorem rRk9 : Rk9 = Rk9 := rfl
name_quick Rk9 for Hd.Rk9 by Hd.rRk9
theorem qk9 : PySem.W.Fast.Lk9 = PySem.W.Fast.Rk9 := by kernel_rfl
theorem ek9 : Lk9 = Rk9 := PySem.W.Fast.Lk9_eq.trans (qk9.trans PySem.W.Fast.Rk9_eq.symm)
def Qw (w : World) (_ : OsState) : List (Option Obj) := as.map (hF w.params).get?
def Qj (w : World) (_ : OsState) : List (Option Obj) := (Mine.myK w.params).map fun p => some p.2
theorem Om : Qw = Qj := by kernel_rfl
theorem c {α : Type} {f g : World -> OsState -> α} (h : f = g) {w : World} {os : OsState} : f w os = g w os := h ▸ rfl
theorem ek (w : World) : (fun os => ((staticsOk (importedModules pw_drawhouse_k41_rows_of_one_part.main.body) (boot_heap w.params) (hF w.params) && namesBound pw_drawhouse_k41_rows_of_one_part (hF w.params) && gensDone ⟨hF w.params, Array.mk [], { }, nat_lit 1335, os⟩ && laidKept (boot_heap w.params) (hF w.params)), openSeen qv loose (importedModules pw_drawhouse_k41_rows_of_one_part.main.body) xt true ⟨hF w.params, Array.mk [], { }, nat_lit 1335, os⟩, Hook.obs (kHook Mine.myK as ke) ⟨hF w.params, Array.mk [], { }, nat_lit 1335, os⟩)) = fun _ => (true, openGood qv loose, Hook.val (kHook Mine.myK as ke) w) :=
 funext fun os => Prod.ext (congrFun (congrFun ek0 w) os) (Prod.ext (Prod.ext (c ek1) (Prod.ext (c ek2) (Prod.ext (c ek3) (Prod.ext (c ek4) (Prod.ext (c ek5) (Prod.ext (c ek6) (Prod.ext (c ek7) (Prod.ext (c ek8) (c ek9))))))))) (congrFun (congrFun Om w) os))
theorem op : opening pw_drawhouse_k41_rows_of_one_part = plainProg pw_drawhouse_k41_rows_of_one_part.main.scope.names := by kernel_rfl
theorem fn (s : Shared) : fenceModules? pw_drawhouse_k41_rows_of_one_part s = some s := by kernel_rfl
theorem left : LeftO pw_drawhouse_k41_rows_of_one_part qv loose xt (Hook.obs (kHook Mine.myK as ke)) (Hook.val (kHook Mine.myK as ke)) 13962 true := by
 refine LeftO.of_pieces (boot_open op rfl fn) (congrFun es) run rfl ek
theorem re : rw_drawhouse_k41_rows_of_one_part = rz := rfl
end
end Hd
open PySem PySem.W PyProof.Rows
set_option maxRecDepth 100000 in
set_option maxHeartbeats 0 in
theorem PySem.Challenge.cw_drawhouse_k41_rows_of_one_part_holds : PySem.Challenge.rw_drawhouse_k41_rows_of_one_part.Holds := by
 rw [Hd.re]; w_on; o_law
 refine holds_open (r := OpenLaw.row Hd.rz) (q := Hd.qv) (loose := Hd.loose) (Xt := Hd.xt) (XP := XL Hd.qv Hd.lv) (Yf := Hook.obs (kHook Mine.myK Hd.as Hd.ke)) (Ya := Hook.val (kHook Mine.myK Hd.as Hd.ke))
  (YP := Hook.says (kHook Mine.myK Hd.as Hd.ke)) Hd.left (Hook.of (kHook Mine.myK Hd.as Hd.ke)) (Hook.keeps (kHook Mine.myK Hd.as Hd.ke)) (fun s e => xl_of s (Bool.and_eq_true_iff.mp e).1) XL.keeps Z3 Z3 Z3
  (fun s e => recFacts_of (Bool.and_eq_true_iff.mp e).2) rfl (by assumption) Z4 ⟨rfl, rfl, rfl, rfl, rfl, Z4⟩ ?hw ?hc
 (case hw => exact ⟨[.list []], Z4, Z4⟩)
 have _ : (rw_drawhouse_k41_rows_of_one_part, Mine.myK) = (rw_drawhouse_k41_rows_of_one_part, Mine.myK) := by (k_fill; rfl)
 refine Mine.walk (l := Hd.rz) rfl rfl (fun w h Y => PySem.W.kIn_of Y) ?F
 case F =>
  intro w mg fa h KX G hmg
  refine' Mine.Kp KX G hmg (Mine.fi ?_ ?_ ?_ ?_) (Mine.fi ?_ ?_ ?_ ?_) (Mine.fi ?_ ?_ ?_ ?_) (Mine.fi ?_ ?_ ?_ ?_) (Mine.fi ?_ ?_ ?_ ?_) (Mine.fi ?_ ?_ ?_ ?_) (Mine.fi ?_ ?_ ?_ ?_) (Mine.fi ?_ ?_ ?_ ?_) (Mine.fi ?_ ?_ ?_ ?_) (Mine.fi ?_ ?_ ?_ ?_) (Mine.fi ?_ ?_ ?_ ?_) (Mine.fi ?_ ?_ ?_ ?_) (Mine.fi ?_ ?_ ?_ ?_) (Mine.fi ?_ ?_ ?_ ?_) (Mine.fi ?_ ?_ ?_ ?_) (Mine.fi ?_ ?_ ?_ ?_) (Mine.fi ?_ ?_ ?_ ?_) (Mine.fi ?_ ?_ ?_ ?_) (Mine.fi ?_ ?_ ?_ ?_) (Mine.fi ?_ ?_ ?_ ?_) (Mine.fi ?_ ?_ ?_ ?_) (Mine.fi ?_ ?_ ?_ ?_) (Mine.fi ?_ ?_ ?_ ?_) (Mine.fi ?_ ?_ ?_ ?_) (Mine.fi ?_ ?_ ?_ ?_) (Mine.fi ?_ ?_ ?_ ?_) ⟨?_, ?_, ?_, ?_, ?_, ?_, ?_, ?_, ?_, ?_, ?_⟩ ⟨?_, ?_, ?_, ?_, ?_, ?_, ?_, ?_, ?_, ?_, ?_⟩ ⟨?_, ?_, ?_, ?_, ?_, ?_, ?_, ?_, ?_, ?_, ?_⟩ ⟨?_, ?_, ?_, ?_, ?_, ?_, ?_, ?_, ?_, ?_, ?_⟩ ⟨?_, ?_, ?_, ?_, ?_, ?_, ?_, ?_, ?_, ?_, ?_⟩ ⟨?_, ?_, ?_, ?_, ?_, ?_, ?_, ?_, ?_, ?_, ?_⟩ ⟨?_, ?_, ?_, ?_, ?_, ?_, ?_, ?_, ?_, ?_, ?_⟩ ⟨?_, ?_, ?_, ?_, ?_, ?_, ?_, ?_, ?_, ?_, ?_⟩ ⟨?_, ?_, ?_, ?_, ?_, ?_, ?_, ?_, ?_, ?_, ?_⟩ ⟨?_, ?_, ?_, ?_, ?_, ?_, ?_, ?_, ?_, ?_, ?_⟩ ⟨?_, ?_, ?_, ?_, ?_, ?_, ?_, ?_, ?_, ?_, ?_⟩ ?_ ?_ ?_ ?_ ?_ ?_ ?_ ?_ ?_ ?_ ?_ ?_ ?_ ?_ ?_ ?_ ?_ ?_ ?_ ?_ ?_ ?_ ?_ ?_ ?_ ?_ ?_ ?_ ?_ ?_ ?_ ?_ ?_ ?_ ?_ ?_ ?_ ?_ ?_ ?_ ?_ ?_ ?_ ?_ ?_ ?_ ?_ ?_ ?_ ?_ ?_ ?_ ?_ ?_ ?_ ?_ ?_ ?_ ?_ ?_ ?_ ?_ ?_ ?_ ?_ ?_ ?_ ?_ ?_ ?_ ?_ ?_ ?_ ?_ ?_ ?_ ?_ ?_ ?_ ?_ ?_ ?_ ?_ ?_ (Mine.mi ?_ ?_ ?_ ?_) ?_ (Mine.mi ?_ ?_ ?_ ?_) ?_ (Mine.mi ?_ ?_ ?_ ?_) ?_ (Mine.mi ?_ ?_ ?_ ?_) ?_ (Mine.mi ?_ ?_ ?_ ?_) ?_ (Mine.mi ?_ ?_ ?_ ?_) ?_ (Mine.mi ?_ ?_ ?_ ?_) ?_ (Mine.mi ?_ ?_ ?_ ?_) ?_ (Mine.mi ?_ ?_ ?_ ?_) ?_ (Mine.mi ?_ ?_ ?_ ?_) ?_ (Mine.mi ?_ ?_ ?_ ?_) ?_ (Mine.mi ?_ ?_ ?_ ?_) ?_ (Mine.mi ?_ ?_ ?_ ?_) ?_ (Mine.mi ?_ ?_ ?_ ?_) ?_ (Mine.mi ?_ ?_ ?_ ?_) ?_ (Mine.mi ?_ ?_ ?_ ?_) ?_ (Mine.mi ?_ ?_ ?_ ?_) ?_ (Mine.mi ?_ ?_ ?_ ?_) ?_ (Mine.mi ?_ ?_ ?_ ?_) ?_ (Mine.mi ?_ ?_ ?_ ?_) ?_ (Mine.mi ?_ ?_ ?_ ?_) ?_ (Mine.mi ?_ ?_ ?_ ?_) ?_ (Mine.mi ?_ ?_ ?_ ?_) ?_ (Mine.mi ?_ ?_ ?_ ?_) ?_ (Mine.mi ?_ ?_ ?_ ?_) ?_ (Mine.mi ?_ ?_ ?_ ?_) ?_ (Mine.mi ?_ ?_ ?_ ?_) ?_ (Mine.mi ?_ ?_ ?_ ?_) ?_ (Mine.mi ?_ ?_ ?_ ?_) ?_ (Mine.mi ?_ ?_ ?_ ?_) ?_ (Mine.mi ?_ ?_ ?_ ?_) ?_ (Mine.mi ?_ ?_ ?_ ?_) ?_ (Mine.mi ?_ ?_ ?_ ?_) ?_ (Mine.mi ?_ ?_ ?_ ?_) ?_ (Mine.mi ?_ ?_ ?_ ?_) ?_ (Mine.mi ?_ ?_ ?_ ?_) ?_ (Mine.mi ?_ ?_ ?_ ?_) ?_ (Mine.mi ?_ ?_ ?_ ?_) ?_ (Mine.mi ?_ ?_ ?_ ?_) ?_ (Mine.mi ?_ ?_ ?_ ?_) ?_ (Mine.mi ?_ ?_ ?_ ?_) ?_ ?_ ?_ ?_ ?_ ?_ ?_ ?_ ?_ ?_ ?_ ?_ ?_ ?_ ?_ ?_ ?_ ?_ ?_ ?_
  any_goals k_is
#print axioms PySem.Challenge.cw_drawhouse_k41_rows_of_one_part_holds
