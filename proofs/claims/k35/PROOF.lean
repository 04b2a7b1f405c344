import PyProof.Rows.All
import Wide.All
import OpenK.AllK
import Wide.FinOn
import Lean
import PyProof.EqAt
import PyProof.EqKinds
import PyProof.TupleCall
import KE.KIntText
import PyProof.ZipIter
import PyProof.EnumFor
import PyProof.EnumMake
import PyProof.ExcClass3
import PyProof.ExcFactsAll.ValueError
import PyProof.ExcArgs
import PyProof.InstStoreFacts
import PyProof.ExcBaseAll.ValueError
import PyProof.Rows.FStr
import KE.KRevSl
import KE.KDictSum
import KE.KDictOf
import PyProof.AttrMissSeq
import PyProof.NeKinds
import PySem.Challenge.RW_drawhouse_k35_with_and_without
set_option Elab.async false
set_option linter.all false
set_option maxRecDepth 100000
abbrev OP := List (PySem.Addr × PySem.Obj)
abbrev EV := PySem.Value -> PySem.Shared -> Prop
abbrev MG := PySem.Str -> Option PySem.Value
open PySem.W (instObj methodObj Frag lookIn plainGet hasDictIn findIn handedIn plainGet_of isFn plainOver takerIn makesIn typeIn emptyDict keepIn specialIn takesIn mroIn kitOne kia_one kitx_list kitx_dict callWith_K methodCall_KW cellsFrom_some fnOf codeIn codeRec_of OpenLaw WalkO nsIn readsIn findCls mg_of mg_none_of)
open Nat (lt_of_lt_of_le lt_irrefl ne_of_lt le_trans le_of_lt ne_of_gt le_refl zero_le le_of_eq le_succ lt_or_ge not_lt not_lt_zero sub_le zero_lt_one)
open List (mem_filter mem_range mem_cons_self mem_cons_of_mem mem_cons mem_append mem_append_left mem_append_right length_cons map_cons length_map append_nil nodup_cons of_mem_zip length_take getElem?_append_right getElem?_append_left getElem?_map mem_of_getElem? length_append size_toArray any_cons map_nil find?_cons length_nil mem_map map_eq_nil_iff getElem?_take append_assoc forIn_cons lookup_cons all_eq_true mem_singleton set_set length_range range_succ map_append ext_getElem getD_eq_getElem?_getD any_map getElem?_eq_getElem filter_append length_filter_le take_length not_mem_nil map_map mem_of_mem_take any_eq_true contains_cons take_succ foldl_cons length_take_le getElem_of_mem nil_append getElem?_inj map_take length_pos_iff getElem_mem map_congr_left length_take_le')
open Array (length_toList toList_extract)
open Option (isSome_iff_exists map_some bind_some)
open Bool (and_eq_true)
open PySem.Challenge (pw_drawhouse_k35_with_and_without rw_drawhouse_k35_with_and_without)
open PySem (boot_len)
open List.Perm (eq_of_pairwise)
open PySem.F (plainAttrs_str slot_str_join type_str_join plainAttrs_list slot_str_split type_str_split slot_str_count type_str_count)
open PyProof.Rows (boot_list boot_any boot_sorted boot_isinstance)
theorem Z0 {p : Prop} (h : p := by decide) : p := h
theorem Z1 {p : Prop} (h : p := by omega) : p := h
theorem Z2 {p : Prop} (h : p := by simp) : p := h
theorem Z3 {p : Prop} (h : p := by rfl) : p := h
theorem Z4 {p : Prop} (h : p := by decide +kernel) : p := h
theorem Z5 {p : Prop} (h : p := by kernel_rfl) : p := h
theorem Z6 {p : Prop} (h : p := by simp; omega) : p := h
theorem Z7 {p : Prop} (h : p := by intro z; cases z) : p := h
namespace L2
open PySem PySem.Spec PyProof.Rows
abbrev Key := Sum Int Str
def wF : Key -> Value -> Bool
 | .inl k, v => Value.isInt k v
 | .inr x, v => Value.isStrOf x v
def QH (w : World) : Key -> Int
 | .inl k => hashInt k
 | .inr x => hashStr w x
theorem cj : ∀ {k : Key} {v : Value}, wF k v = true -> (∃ i t, k = Sum.inl i /\ v = Value.int i t) \/ (∃ x t, k = Sum.inr x /\ v = Value.str x t)
 | .inl i, v, h => by
  obtain ⟨t, e⟩ := Value.isInt_shape (k := i) (v := v) h
  exact .inl ⟨i, t, rfl, e⟩
 | .inr x, v, h => by
  obtain ⟨t, e⟩ := Value.isStrOf_shape (x := x) (v := v) h
  exact .inr ⟨x, t, rfl, e⟩
theorem El (i : Int) (t : Tok) : wF (.inl i) (.int i t) = true := by simp [wF, Value.isInt]
theorem Fj (x : Str) (t : Tok) : wF (.inr x) (.str x t) = true := by simp [wF, Value.isStrOf]
theorem M4 (a b : Int) : decide ((Sum.inl a : Key) = Sum.inl b) = (a == b) := by
 by_cases e : a = b
 ·subst e; simp
 ·have h : ¬ (Sum.inl a : Key) = Sum.inl b := fun q => e (Sum.inl.inj q)
  rw [decide_eq_false h]
  exact (beq_eq_false_iff_ne.mpr e).symm
theorem Mq (a b : Str) : decide ((Sum.inr a : Key) = Sum.inr b) = decide (a = b) := by
 by_cases e : a = b
 ·subst e; simp
 ·have h : ¬ (Sum.inr a : Key) = Sum.inr b := fun q => e (Sum.inr.inj q)
  rw [decide_eq_false h, decide_eq_false e]
theorem MJ (a : Int) (b : Str) : decide ((Sum.inl a : Key) = Sum.inr b) = false := decide_eq_false (fun q => nomatch q)
theorem Ly (a : Str) (b : Int) : decide ((Sum.inr a : Key) = Sum.inl b) = false := decide_eq_false (fun q => nomatch q)
def cM (prog : Program) (w : World) : PySem.KeyKind prog w Key where
 is := wF
 hash := QH w
 inj := fun v a b ha hb => by
  rcases cj ha with ⟨i, t, rfl, rfl⟩ | ⟨x, t, rfl, rfl⟩
  ·rcases cj hb with ⟨j, u, rfl, e⟩ | ⟨y, u, rfl, e⟩
   ·injection e with e1 _; rw [e1]
   ·exact nomatch e
  ·rcases cj hb with ⟨j, u, rfl, e⟩ | ⟨y, u, rfl, e⟩
   ·exact nomatch e
   ·injection e with e1 _; rw [e1]
 byValue := fun k v h => by
  rcases cj h with ⟨i, t, rfl, rfl⟩ | ⟨x, t, rfl, rfl⟩ <;> rfl
 pyHash := fun hv h => by
  rcases cj hv with ⟨i, t, rfl, rfl⟩ | ⟨x, t, rfl, rfl⟩
  ·exact wpAny_pyHash_int h
  ·exact wpAny_pyHash_str h
 eqBool := fun hu hv h => by
  rcases cj hu with ⟨i, t, rfl, rfl⟩ | ⟨x, t, rfl, rfl⟩
  ·rcases cj hv with ⟨j, u, rfl, rfl⟩ | ⟨y, u, rfl, rfl⟩
   ·rw [M4] at h; exact wpAny_eqBool_int h
   ·rw [MJ] at h; exact SeqAt.EqAt.int_str i t y u _ _ _ _ h
  ·rcases cj hv with ⟨j, u, rfl, rfl⟩ | ⟨y, u, rfl, rfl⟩
   ·rw [Ly] at h; exact SeqAt.EqAt.str_int x t j u _ _ _ _ h
   ·rw [Mq] at h; exact wpAny_eqBool_str h
 «strs» := fun k x t v h => by
  rcases cj h with ⟨i, u, rfl, e⟩ | ⟨y, u, rfl, e⟩
  ·exact nomatch e
  ·injection e with e1 _
   subst e1
   cases v <;> rfl
theorem zQ (prog : Program) (w : World) (i : Int) (t : Tok) : (cM prog w).is (.inl i) (.int i t) = true := El i t
theorem Ag (prog : Program) (w : World) (x : Str) (t : Tok) : (cM prog w).is (.inr x) (.str x t) = true := Fj x t
inductive V where
 | non | bl (b : Bool) | int (i : Int) | str (x : Str) | byt (b : Array UInt8) | flt (b : UInt64) | ref (a : Addr) | ty (n : String)
 deriving DecidableEq
def RelV : V -> Value -> Prop
 | .non, u => u = Value.none
 | .bl b, u => u = Value.bool b
 | .int i, u => ∃ t, u = Value.int i t
 | .str x, u => ∃ t, u = Value.str x t
 | .byt b, u => ∃ t, u = Value.bytes b t
 | .flt b, u => ∃ t, u = Value.float b t
 | .ref a, u => u = Value.ref a
 | .ty n, u => u = Value.type n
abbrev Vals : List V -> List Value -> Prop := Paired RelV
theorem Vals.length {xs : List V} {us : List Value} (r : Vals xs us) : xs.length = us.length := Paired.length r
theorem Vals.get : ∀ {xs : List V} {us : List Value} {i : Nat} {x : V}, Vals xs us -> xs[i]? = some x -> ∃ u, us[i]? = some u /\ RelV x u
 | _, _, _, _, .nil, e => by simp at e
 | _, _, 0, _, .cons r _, e => by simp at e; subst e; exact ⟨_, rfl, r⟩
 | _, _, i + 1, x, .cons _ t, e => by
  obtain ⟨u, h1, h2⟩ := Vals.get (i := i) (x := x) t (by simpa using e)
  exact ⟨u, by simpa using h1, h2⟩
theorem Vals.append : ∀ {xs ys : List V} {us ws : List Value}, Vals xs us -> Vals ys ws -> Vals (xs ++ ys) (us ++ ws)
 | _, _, _, _, .nil, s => s
 | _, _, _, _, .cons r t, s => .cons r (Vals.append t s)
theorem Vals.take : ∀ {xs : List V} {us : List Value} (n : Nat), Vals xs us -> Vals (xs.take n) (us.take n)
 | _, _, 0, _ => .nil
 | _, _, _ + 1, .nil => .nil
 | _, _, n + 1, .cons r t => .cons r (Vals.take n t)
theorem Vals.drop : ∀ {xs : List V} {us : List Value} (n : Nat), Vals xs us -> Vals (xs.drop n) (us.drop n)
 | _, _, 0, r => r
 | _, _, _ + 1, .nil => .nil
 | _, _, n + 1, .cons _ t => Vals.drop n t
def kZ : Option V -> Option Value -> Prop
 | some v, some u => RelV v u
 | none, none => True
 | _, _ => False
def KV {κ : Type} : List (κ × V) -> List (κ × Value) -> Prop := Paired fun (p : κ × V) (q : κ × Value) => p.1 = q.1 /\ RelV p.2 q.2
def kV : Key -> V
 | .inl i => .int i
 | .inr x => .str x
inductive HO where
 | lst (xs : List V)
 | tup (xs : List V)
 | dK (kvs : List (Key × V)) | dT (kvs : List (List Key × V))
 | set (S : Int -> Bool) (n : Nat)
 | ins (C dx : Addr) (fs : List (Str × V))
 | own (x : Addr)
 | xd (fs : List (Str × V))
 | met (f x : Addr)
 | rng (lo hi : Int)
 | frz (o : Obj) (u : HO)
 | tbl (ps : Array Value)
 | ext (φ : Heap -> Prop)
abbrev Hp := Addr -> Option HO
def upd (H : Hp) (a : Addr) (o : HO) : Hp := fun b => if b = a then some o else H b
theorem ak {H : Hp} {a : Addr} {o : HO} : upd H a o a = some o := by unfold upd; rw [if_pos rfl]
theorem aK {H : Hp} {a b : Addr} {o : HO} (h : b ≠ a) : upd H a o b = H b := by unfold upd; rw [if_neg h]
theorem pq {H : Hp} {a b : Addr} {o u : HO} (h : H a = some o) (h' : H b = some u) (d : o ≠ u) : a ≠ b := by
 intro e; subst e; rw [h] at h'; exact d (Option.some.inj h')
theorem aD {H : Hp} {a b : Addr} {o : HO} (h : H a = some o) (h' : H b = none) : a ≠ b := by
 intro e; subst e; rw [h] at h'; cases h'
section
variable (P : Program) (w : World)
def bY (H : Hp) (h : Heap) (a : Addr) : HO -> Prop
 | .lst xs => xs.length <= sizeLine /\ ∃ (its : List Value) (n : Nat), Vals xs its /\ h.get? a = some { cls := .type "list", data := .seq its.toArray n }
 | .tup xs => xs.length <= sizeLine /\ ∃ its : List Value, Vals xs its /\ IsTup h a its.toArray
 | .dK kvs => kvs.length <= sizeLine /\ (a == sysModules) = false /\ ∃ vs, KV kvs vs /\ h.DictOf (cM P w) a vs
 | .dT kvs => kvs.length <= sizeLine /\ (a == sysModules) = false /\ ∃ xs : List (List Key × Addr × Value),
   Paired (fun (p : List Key × V) (q : List Key × Addr × Value) => p.1 = q.1 /\ H q.2.1 = some (.tup (p.1.map kV)) /\ RelV p.2 q.2.2) kvs xs /\
   ∃ o es ep, h.get? a = some o /\ o.ExactDict /\ o.data = .dict es ep /\ es.toList = xs.map (entryOfKey (tupleKind (cM P w))) /\ (xs.map (·.1)).Nodup
 | .set S n => h.SetOf (intKind P w) a S n
 | .ins C dx fs => H dx = some (.own a) /\ fs.length <= 1000 /\ dx ≠ a /\ h.get? a = some (instObj C dx) /\
   ∃ mA, h.Ns1 dx mA /\ (∀ f, kZ (fs.lookup f) (mA f)) /\ PySem.Within mA (fs.map (·.1))
 | .own _ => ∃ o, h.get? a = some o
 | .xd fs => ∃ mA, h.Ns1 a mA /\ ∀ f, kZ (fs.lookup f) (mA f)
 | .rng lo hi => ∃ t u v, h.get? a = some { cls := .type "range", data := .fields #[.int lo t, .int hi u, .int 1 v] }
 | .frz o u => h.get? a = some o /\ bY H h a u
 | .tbl ps => h.get? a = some { cls := .none, data := .fields ps }
 | .met f x => h.get? a = some (methodObj (.ref f) (.ref x))
 | .ext φ => φ h /\ (∃ o, h.get? a = some o) /\ ∀ h1 h2 : Heap, φ h1 -> (∀ o, h1.get? a = some o -> h2.get? a = some o) -> φ h2
def HOk (H : Hp) (h : Heap) : Prop := ∀ a o, H a = some o -> bY P w H h a o
end
section
variable {P : Program} {w : World} {H H' : Hp} {h h' : Heap} {a : Addr} {o : HO}
theorem bY.lt (x : bY P w H h a o) : a < h.objs.size := by
 cases o with
 | lst xs => obtain ⟨_, _, _, _, e⟩ := x; exact Heap.lt_size e
 | tup xs => obtain ⟨_, _, _, p⟩ := x; exact p.lt
 | dK kvs => obtain ⟨_, _, _, _, o, _, _, e, _⟩ := x; exact Heap.lt_size e
 | dT kvs => obtain ⟨_, _, _, _, o, _, _, e, _⟩ := x; exact Heap.lt_size e
 | set S n => obtain ⟨o, _, _, _, e, _⟩ := x; exact Heap.lt_size e
 | ins C dx fs => obtain ⟨_, _, _, e, _⟩ := x; exact Heap.lt_size e
 | own y => obtain ⟨_, e⟩ := x; exact Heap.lt_size e
 | xd fs => obtain ⟨_, ⟨_, _, _, e, _⟩, _⟩ := x; exact Heap.lt_size e
 | rng lo hi => obtain ⟨_, _, _, e⟩ := x; exact Heap.lt_size e
 | frz ob u => obtain ⟨e, _⟩ := x; exact Heap.lt_size e
 | tbl ps => exact Heap.lt_size (show h.get? a = some _ from x)
 | met f y => exact Heap.lt_size (show h.get? a = some _ from x)
 | ext φ => obtain ⟨_, ⟨_, e⟩, _⟩ := x; exact Heap.lt_size e
theorem Paired.mapP {α β : Type} {F G : α -> β -> Prop} : ∀ {l₁ : List α} {l₂ : List β}, Paired F l₁ l₂ -> (∀ a b, F a b -> G a b) -> Paired G l₁ l₂
 | _, _, .nil, _ => .nil
 | _, _, .cons r t, f => .cons (f _ _ r) (Paired.mapP t f)
theorem bY.stay (x : bY P w H h a o) (k : ∀ b u, (b = a \/ H b = some (.own a)) -> h.get? b = some u -> h'.get? b = some u)
  (ho : ∀ b, H b = some (.own a) -> H' b = some (.own a)) (ht : ∀ b xs, H b = some (.tup xs) -> H' b = some (.tup xs)) : bY P w H' h' a o := by
 induction o with
 | lst xs => obtain ⟨z, its, n, r, e⟩ := x; exact ⟨z, its, n, r, k _ _ (.inl rfl) e⟩
 | tup xs => obtain ⟨z, its, r, ob, e, c⟩ := x; exact ⟨z, its, r, ob, k _ _ (.inl rfl) e, c⟩
 | dK kvs => obtain ⟨z, y, vs, r, ob, es, ep, e, c⟩ := x; exact ⟨z, y, vs, r, ob, es, ep, k _ _ (.inl rfl) e, c⟩
 | dT kvs =>
  obtain ⟨z, y, xs, r, ob, es, ep, e, c⟩ := x
  exact ⟨z, y, xs, Paired.mapP r fun p q z => ⟨z.1, ht _ _ z.2.1, z.2.2⟩, ob, es, ep, k _ _ (.inl rfl) e, c⟩
 | set S n => obtain ⟨ob, es, ep, t, e, c⟩ := x; exact ⟨ob, es, ep, t, k _ _ (.inl rfl) e, c⟩
 | ins C dx fs =>
  obtain ⟨d, z, ne, e, mA, ⟨od, es, ep, e2, c⟩, r⟩ := x
  exact ⟨ho _ d, z, ne, k _ _ (.inl rfl) e, mA, ⟨od, es, ep, k _ _ (.inr d) e2, c⟩, r⟩
 | own y => obtain ⟨ob, e⟩ := x; exact ⟨ob, k _ _ (.inl rfl) e⟩
 | xd fs => obtain ⟨mA, ⟨od, es, ep, e, c⟩, r⟩ := x; exact ⟨mA, ⟨od, es, ep, k _ _ (.inl rfl) e, c⟩, r⟩
 | rng lo hi => obtain ⟨t, u, v, e⟩ := x; exact ⟨t, u, v, k _ _ (.inl rfl) e⟩
 | frz ob u ih => obtain ⟨e, q⟩ := x; exact ⟨k _ _ (.inl rfl) e, ih q⟩
 | tbl ps =>
  have e : h.get? a = some { cls := .none, data := .fields ps } := x
  show h'.get? a = some { cls := .none, data := .fields ps }
  exact k a _ (.inl rfl) e
 | met f y =>
  have e : h.get? a = some (methodObj (.ref f) (.ref y)) := x
  show h'.get? a = some (methodObj (.ref f) (.ref y))
  exact k a _ (.inl rfl) e
 | ext φ => obtain ⟨p, ⟨o, e⟩, st⟩ := x; exact ⟨st _ _ p fun o q => k _ _ (.inl rfl) q, ⟨o, k _ _ (.inl rfl) e⟩, st⟩
theorem HOk.lt (x : HOk P w H h) (e : H a = some o) : a < h.objs.size := (x a o e).lt
theorem HOk.fresh (x : HOk P w H h) (e : h.objs.size <= a) : H a = none := by
 cases q : H a with
 | none => rfl
 | some u => exact absurd (lt_of_lt_of_le (x.lt q) e) (lt_irrefl _)
theorem HOk.kept (x : HOk P w H h) (k : ∀ b u, h.get? b = some u -> h'.get? b = some u) : HOk P w H h' := fun a o e =>
 (x a o e).stay (fun b u _ q => k b u q) (fun _ q => q) fun _ _ q => q
theorem HOk.laid (x : HOk P w H h) (k : ∀ b u, h.get? b = some u -> h'.get? b = some u) (hp : h.objs.size <= a) (new : bY P w (upd H a o) h' a o) : HOk P w (upd H a o) h' := fun b u e => by
 have hn := x.fresh hp
 by_cases hb : b = a
 ·subst hb; rw [ak] at e; cases e; exact new
 ·rw [aK hb] at e
  exact (x b u e).stay (fun c v _ q => k c v q) (fun c q => by rw [aK (aD q hn)]; exact q) fun c xs q => by rw [aK (aD q hn)]; exact q
end
def Rd (H : Hp) (a : Addr) (u : HO) : Prop := H a = some u \/ ∃ o, H a = some (.frz o u)
theorem Rd.ok {P : Program} {w : World} {H : Hp} {h : Heap} {a : Addr} {u : HO} (r : Rd H a u) (x : HOk P w H h) : bY P w H h a u := by
 rcases r with r | ⟨o, r⟩
 ·exact x a u r
 ·obtain ⟨_, q⟩ := x a _ r
  exact q
def Mut : Option HO -> Prop
 | some (.lst _) => True
 | some (.dK _) => True
 | some (.dT _) => True
 | some (.set _ _) => True
 | some (.ins _ _ _) => True
 | some (.ext _) => True
 | _ => False
section
variable {P : Program} {w : World} {H : Hp} {h h' : Heap} {x e : Addr} {o' : HO}
theorem HOk.write (ok : HOk P w H h) (mu : Mut (H x)) (he : e = x \/ H e = some (.own x)) (k : ∀ b u, b ≠ e -> h.get? b = some u -> h'.get? b = some u) (heo : ∃ u, h'.get? e = some u)
  (new : bY P w (upd H x o') h' x o') : HOk P w (upd H x o') h' := fun b u q => by
 have nown : ∀ c y, H c = some (.own y) -> c ≠ x := fun c y r z => by subst z; rw [r] at mu; exact mu
 have ntup : ∀ c xs, H c = some (.tup xs) -> c ≠ x := fun c xs r z => by subst z; rw [r] at mu; exact mu
 by_cases hb : b = x
 ·subst hb; rw [ak] at q; cases q; exact new
 ·rw [aK hb] at q
  by_cases hbe : b = e
  ·have q' : H b = some (.own x) := by
    rcases he with z | z
    ·exact absurd (hbe.trans z) hb
    ·rw [hbe]; exact z
   rw [q] at q'; cases q'
   obtain ⟨v, hv⟩ := heo
   exact ⟨v, by rw [hbe]; exact hv⟩
  ·refine (ok b u q).stay (fun c v hc r => k c v ?_ r) (fun c r => by rw [aK (nown c b r)]; exact r) fun c xs r => by rw [aK (ntup c xs r)]; exact r
   rcases hc with rfl | hc
   ·exact hbe
   ·rintro rfl
    rcases he with z | z
    ·exact nown c b hc z
    ·rw [hc] at z; cases z; exact hb rfl
end
structure Un (fs ex : List Addr) (H H' : Hp) (h h' : Heap) : Prop where
 keep : ∀ b o, h.get? b = some o -> H b = none -> b ∉ fs -> b ∉ ex -> h'.get? b = some o
 slot : ∀ b o, h.get? b = some o -> H b = none -> b ∈ fs -> b ∉ ex -> ∃ sl, h'.get? b = some { o with slots := sl }
 free : ∀ b o, h.get? b = some o -> H b = none -> b ∉ ex -> H' b = none
 there : ∀ b o, h.get? b = some o -> b ∉ ex -> ∃ o', h'.get? b = some o'
 tups : ∀ b xs, H b = some (.tup xs) -> H' b = some (.tup xs)
 frzs : ∀ b o u, H b = some (.frz o u) -> H' b = some (.frz o u)
 tbls : ∀ b ps, H b = some (.tbl ps) -> ∃ more, H' b = some (.tbl (ps ++ more))
section
variable {fs fs' ex ex' : List Addr} {H H1 H2 : Hp} {h h1 h2 h' : Heap} {a x e : Addr} {o : HO}
theorem Un.any (u : Un fs ex H H1 h h1) {b : Addr} {ob : Obj} (q : h.get? b = some ob) (n : H b = none) (hx : b ∉ ex) : ∃ sl, h1.get? b = some { ob with slots := sl } := by
 by_cases hb : b ∈ fs
 ·exact u.slot b ob q n hb hx
 ·exact ⟨ob.slots, u.keep b ob q n hb hx⟩
theorem Un.kept (k : ∀ b u, h.get? b = some u -> h'.get? b = some u) : Un fs ex H H h h' :=
 ⟨fun b ob q _ _ _ => k b ob q, fun b ob q _ _ _ => ⟨ob.slots, k b ob q⟩, fun _ _ _ n _ => n, fun b ob q _ => ⟨ob, k b ob q⟩, fun _ _ q => q, fun _ _ _ q => q, fun _ ps q => ⟨#[], by rw [q]; simp⟩⟩
theorem Un.refl : Un fs ex H H h h := Un.kept fun _ _ q => q
theorem Un.laid (k : ∀ b u, h.get? b = some u -> h'.get? b = some u) (hp : h.objs.size <= a) (hn : H a = none) : Un fs ex H (upd H a o) h h' where
 keep := fun b u q _ _ _ => k b u q
 slot := fun b u q _ _ _ => ⟨u.slots, k b u q⟩
 free := fun b u q n _ => by rw [aK (ne_of_lt (lt_of_lt_of_le (Heap.lt_size q) hp))]; exact n
 there := fun b u q _ => ⟨u, k b u q⟩
 tups := fun b xs q => by rw [aK (aD q hn)]; exact q
 frzs := fun b u xs q => by rw [aK (aD q hn)]; exact q
 tbls := fun b ps q => ⟨#[], by rw [aK (aD q hn), q]; simp⟩
theorem Un.write (mu : Mut (H x)) (he : e = x \/ H e = some (.own x)) (k : ∀ b u, b ≠ e -> h.get? b = some u -> h'.get? b = some u) (heo : ∃ u, h'.get? e = some u) : Un fs ex H (upd H x o) h h' := by
 have hx : ∀ b, H b = none -> b ≠ x := fun b n z => by subst z; rw [n] at mu; exact mu
 have hb : ∀ b, H b = none -> b ≠ e := fun b n z => by
  subst z
  rcases he with r | r
  ·exact hx b n r
  ·rw [n] at r; cases r
 have hm : ∀ b u, H b = some u -> ¬ Mut (some u) -> b ≠ x := fun b u q nm z => by subst z; rw [q] at mu; exact nm mu
 refine ⟨fun b u q n _ _ => k b u (hb b n) q, fun b u q n _ _ => ⟨u.slots, k b u (hb b n) q⟩, fun b u q n _ => by rw [aK (hx b n)]; exact n, fun b u q _ => ?_,
  fun b xs q => by rw [aK (hm b _ q fun z => z)]; exact q, fun b u xs q => by rw [aK (hm b _ q fun z => z)]; exact q, fun b ps q => ⟨#[], by rw [aK (hm b _ q fun z => z), q]; simp⟩⟩
 by_cases hbe : b = e
 ·subst hbe; exact heo
 ·exact ⟨u, k b u hbe q⟩
end
def trk (h : Heap) (H : Hp) : List Addr := (List.range h.objs.size).filter fun a => (H a).isSome
def yZ (h : Heap) (H : Hp) : Heap := PySem.W.hideAll h (trk h H)
theorem Fg (h : Heap) (H : Hp) : (yZ h H).objs.size = h.objs.size := PySem.W.hideAll_size _ _
theorem Jh {h : Heap} {H : Hp} {b : Addr} {o : Obj} (e : h.get? b = some o) (n : H b = none) : (yZ h H).get? b = some o :=
 PySem.W.hideAll_get _ e fun hm => by
  have q : (H b).isSome = true := (mem_filter.mp hm).2
  rw [n] at q; simp at q
theorem JF {h : Heap} {H : Hp} {b : Addr} {o : Obj} (e : (yZ h H).get? b = some o) : h.get? b = some o /\ H b = none := by
 have e' : h.get? b = some o := PySem.W.of_hideAll (trk h H) e
 refine ⟨e', ?_⟩
 cases q : H b with
 | none => rfl
 | some x =>
  have hm : b ∈ trk h H := mem_filter.mpr ⟨mem_range.mpr (Heap.lt_size e'), by simp [q]⟩
  have z : (yZ h H).get? b = none := PySem.W.hideAll_none (trk h H) hm
  rw [z] at e; cases e
structure Mod (K : Frag) (mg : MG) (base : Heap) : Prop where
 kin : K.In base
 glob : base.Ns mainGlobals mg
 blt : ∃ mb, base.Ns builtinsNs mb /\ ∀ x : Str, x ≠ "__name__" -> mb x = bootBuiltins x
 nolimit : base.NoLimit
structure Cx where
 prog : Program
 w : World
 K : Frag
 mg : Str -> Option Value
 base : Heap
 A : Around
 N : List Str
 s₀ : Shared
 H₀ : Hp
 env : Env
 outer : List Env
 stack : List Env
 ex : List Addr
 fn : Str -> Bool
 calm : Bool
 pn : OP
 xe : Value -> Shared -> Prop
def frs (l : List Env) : List Addr := l.filterMap (·.frame)
abbrev Cx.fs (X : Cx) : List Addr := frs X.outer
def Vis (sc : Scope) (x : Str) : Prop := sc.names.lookup x = some .local \/ sc.names.lookup x = some .cell \/ sc.names.lookup x = some .free
def Loc (sc : Scope) (x : Str) : Prop := sc.names.lookup x = some .local \/ sc.names.lookup x = some .cell
def Look (env : Env) (h : Heap) (m : MG) (x : Str) (u : Value) : Prop :=
 (env.kindOf x = some .local /\ m x = some u) \/ ((env.kindOf x = some .cell \/ env.kindOf x = some .free) /\ ∃ c, env.cells.lookup x = some c /\ h.IsCell c (some u))
structure Cx.Ok (X : Cx) : Prop where
 mod : Mod X.K X.mg X.base
 kind : X.env.scope.kind = .function
 glob : X.env.globals = mainGlobals
 blt : X.env.builtins = builtinsNs
 above : X.s₀.heap.objs.size <= X.env.locals
 inj : ∀ x y c, X.env.cells.lookup x = some c -> X.env.cells.lookup y = some c -> x = y
 has : ∀ x, (X.env.kindOf x = some .cell \/ X.env.kindOf x = some .free) -> ∃ c, X.env.cells.lookup x = some c
 cab : ∀ x c, X.fn x = true -> X.env.cells.lookup x = some c -> X.s₀.heap.objs.size <= c
 hd : X.calm = true -> X.A.handled = none
 frames : X.A.frames = some X.stack
 stk : X.stack = X.outer \/ (X.stack = X.env :: X.outer /\ X.env.frame = some X.env.locals)
 exf : ∀ b ∈ X.ex, b ≠ X.env.locals /\ ∀ x c, X.env.cells.lookup x = some c -> c ≠ b
 bs : ∀ b o, X.base.get? b = some o -> X.s₀.heap.get? b = some o /\ X.H₀ b = none
 bsz : X.base.objs.size <= X.s₀.heap.objs.size
 noex : ∀ b o, X.base.get? b = some o -> b ∉ X.ex
 exfs : ∀ b ∈ X.ex, b ∉ X.fs
 funs : X.s₀.heap.FunFrames X.base X.outer
 frf : ∀ b ∈ X.fs, X.H₀ b = none
structure Inv (X : Cx) (pins : OP) (σ : List (Option V)) (H : Hp) (s : Shared) : Prop where
 ok : X.Ok
 os : s.os = X.s₀.os
 bare : AllBare s.gens
 base : Un X.fs X.ex X.H₀ H X.s₀.heap s.heap
 loc : ∃ m, s.heap.Ns X.env.locals m /\ ∀ (i : Nat) (x : Str) (v : V), X.N[i]? = some x -> σ[i]? = some (some v) -> Vis X.env.scope x -> ∃ u, RelV v u /\ Look X.env s.heap m x u
 cell : ∀ x c, X.env.cells.lookup x = some c -> ∃ v, s.heap.IsCell c v
 free : H X.env.locals = none
 freeC : ∀ x c, X.env.cells.lookup x = some c -> H c = none
 pin : ∀ p ∈ X.pn ++ pins, s.heap.get? p.1 = some p.2 /\ H p.1 = none /\ p.1 ≠ X.env.locals /\ p.1 ∉ X.fs /\ ∀ v, p.2.data ≠ .cell v
 hok : HOk X.prog X.w H s.heap
 len : σ.length = X.N.length
section
variable {X : Cx} {pins : OP} {σ : List (Option V)} {H H' : Hp} {s : Shared} {h' : Heap}
theorem Cx.Ok.nofr (ok : X.Ok) {b : Addr} {o : Obj} (e : X.base.get? b = some o) : b ∉ X.fs := fun hb => by
 have := (ok.funs.mem hb).1
 rw [e] at this; cases this
theorem Inv.bs (I : Inv X pins σ H s) : ∀ b o, X.base.get? b = some o -> s.heap.get? b = some o /\ H b = none := fun b o e =>
 ⟨I.base.keep b o (I.ok.bs b o e).1 (I.ok.bs b o e).2 (I.ok.nofr e) (I.ok.noex b o e), I.base.free b o (I.ok.bs b o e).1 (I.ok.bs b o e).2 (I.ok.noex b o e)⟩
theorem Inv.bk (I : Inv X pins σ H s) : ∀ b o, X.base.get? b = some o -> s.heap.get? b = some o := fun b o e => (I.bs b o e).1
theorem Inv.mod (I : Inv X pins σ H s) : Mod X.K X.mg X.base := I.ok.mod
theorem Inv.kIn (I : Inv X pins σ H s) : X.K.In s.heap := I.ok.mod.kin.keeps I.bk
theorem Inv.lt (I : Inv X pins σ H s) : X.env.locals < s.heap.objs.size := let ⟨_, hn, _⟩ := I.loc; hn.lt
theorem Inv.sz (I : Inv X pins σ H s) : X.s₀.heap.objs.size <= s.heap.objs.size := le_trans I.ok.above (le_of_lt I.lt)
theorem Inv.nofs (I : Inv X pins σ H s) {a : Addr} (h : s.heap.objs.size <= a) : a ∉ X.fs := fun hb => by
 obtain ⟨_, o, ho, _⟩ := I.ok.funs.mem hb
 exact absurd (lt_of_lt_of_le (Heap.lt_size ho) (le_trans I.sz h)) (lt_irrefl _)
theorem Inv.cne (I : Inv X pins σ H s) : ∀ x c, X.env.cells.lookup x = some c -> c ≠ X.env.locals := fun x c e z => by
 obtain ⟨v, o, ho, hd⟩ := I.cell x c e
 obtain ⟨m, ⟨o', es, ep, ho', hd', _⟩, _⟩ := I.loc
 rw [z, ho'] at ho; cases ho; rw [hd'] at hd; cases hd
theorem Inv.funs (I : Inv X pins σ H s) : s.heap.FunFrames X.base X.outer := by
 have all : ∀ (l : List Env), (∀ b ∈ frs l, b ∈ X.fs) -> X.s₀.heap.FunFrames X.base l -> s.heap.FunFrames X.base l := by
  intro l
  induction l with
  | nil => intro _ _; trivial
  | cons env r ih =>
   intro hs hl
   obtain ⟨hk, ⟨L, o, hf, hn, ho, hd⟩, hr⟩ := hl
   have hL : L ∈ X.fs := hs L (by unfold frs; rw [List.filterMap_cons, hf]; exact mem_cons_self)
   obtain ⟨sl, e⟩ := I.base.slot L o ho (I.ok.frf L hL) hL fun z => I.ok.exfs L z hL
   exact ⟨hk, ⟨L, _, hf, hn, e, hd⟩, ih (fun b hb => hs b (by unfold frs; rw [List.filterMap_cons, hf]; exact mem_cons_of_mem _ hb)) hr⟩
 exact all X.outer (fun _ hb => hb) I.ok.funs
theorem Inv.stack (I : Inv X pins σ H s) : s.heap.FunFrames X.base X.stack := by
 rcases I.ok.stk with e | ⟨e, hf⟩
 ·rw [e]; exact I.funs
 ·rw [e]
  obtain ⟨m, hn, _⟩ := I.loc
  refine .cons (by rw [I.ok.kind]; decide) hf hn ?_ I.funs
  exact Heap.get?_none_of_le (le_trans I.ok.bsz I.ok.above)
theorem Inv.stkSub (I : Inv X pins σ H s) : ∀ b ∈ frs X.stack, b ∈ X.env.locals :: X.fs := fun b hb => by
 rcases I.ok.stk with e | ⟨e, hf⟩
 ·rw [e] at hb; exact mem_cons_of_mem _ hb
 ·rw [e] at hb
  unfold frs at hb
  rw [List.filterMap_cons, hf] at hb
  exact hb
theorem Inv.stkFree (I : Inv X pins σ H s) : ∀ b ∈ frs X.stack, H b = none := fun b hb => by
 rcases mem_cons.mp (I.stkSub b hb) with e | hb
 ·rw [e]; exact I.free
 ·obtain ⟨_, o, ho, _⟩ := I.ok.funs.mem hb
  exact I.base.free b o ho (I.ok.frf b hb) fun z => I.ok.exfs b z hb
theorem Inv.step {g' : Array GenState} {t' : Nat} {d' : Drawn} {ch : List Addr} (I : Inv X pins σ H s)
  (hch : ∀ b ∈ ch, (b ∈ X.ex \/ X.s₀.heap.objs.size <= b) /\ b ≠ X.env.locals /\ (∀ x c, X.env.cells.lookup x = some c -> c ≠ b) /\ ∀ p ∈ X.pn ++ pins, p.1 ≠ b)
  (keep : ∀ b o, b ≠ X.env.locals -> b ∉ X.fs -> b ∉ ch -> s.heap.get? b = some o -> H b = none -> h'.get? b = some o)
  (slot : ∀ b o, b ≠ X.env.locals -> b ∈ X.fs -> b ∉ ch -> s.heap.get? b = some o -> H b = none -> ∃ sl, h'.get? b = some { o with slots := sl }) (free : ∀ b o, b ∉ ch -> s.heap.get? b = some o -> H b = none -> H' b = none)
  (there : ∀ b o, b ∉ ch -> s.heap.get? b = some o -> ∃ o', h'.get? b = some o')
  (tups : ∀ b xs, H b = some (.tup xs) -> H' b = some (.tup xs)) (frzs : ∀ b o u, H b = some (.frz o u) -> H' b = some (.frz o u)) (tbls : ∀ b ps, H b = some (.tbl ps) -> ∃ more, H' b = some (.tbl (ps ++ more)))
  (ns : ∀ m, s.heap.Ns X.env.locals m -> h'.Ns X.env.locals m) (hok : HOk X.prog X.w H' h') (hg : AllBare g') :
  Inv X pins σ H' { s with heap := h', gens := g', drawn := d', toks := t' } := by
 have neL : ∀ b o, X.s₀.heap.get? b = some o -> b ≠ X.env.locals := fun b o e => ne_of_lt (lt_of_lt_of_le (Heap.lt_size e) I.ok.above)
 have neC : ∀ b o, X.s₀.heap.get? b = some o -> b ∉ X.ex -> b ∉ ch := fun b o e hx hb => by
  rcases (hch b hb).1 with z | z
  ·exact hx z
  ·exact absurd (lt_of_lt_of_le (Heap.lt_size e) z) (lt_irrefl _)
 have cellK : ∀ x c, X.env.cells.lookup x = some c -> ∀ v, s.heap.IsCell c v -> h'.IsCell c v := fun x c e v ⟨o, ho, hd⟩ => by
  have nch : c ∉ ch := fun z => (hch c z).2.2.1 x c e rfl
  by_cases hc : c ∈ X.fs
  ·obtain ⟨sl, q⟩ := slot c o (I.cne x c e) hc nch ho (I.freeC x c e)
   exact ⟨_, q, hd⟩
  ·exact ⟨o, keep c o (I.cne x c e) hc nch ho (I.freeC x c e), hd⟩
 refine ⟨I.ok, I.os, hg, ⟨fun b o e n hb hx => ?_, fun b o e n hb hx => ?_, fun b o e n hx => ?_, fun b o e hx => ?_, fun b xs e => tups b xs (I.base.tups b xs e), fun b o xs e => frzs b o xs (I.base.frzs b o xs e), fun b ps e => ?_⟩, ?_, fun x c e => ?_, ?_, fun x c e => ?_, fun p hp => ?_, hok, I.len⟩
 ·exact keep b o (neL b o e) hb (neC b o e hx) (I.base.keep b o e n hb hx) (I.base.free b o e n hx)
 ·obtain ⟨sl, e1⟩ := I.base.slot b o e n hb hx
  obtain ⟨sl', e2⟩ := slot b _ (neL b o e) hb (neC b o e hx) e1 (I.base.free b o e n hx)
  exact ⟨sl', e2⟩
 ·obtain ⟨o', e1⟩ := I.base.there b o e hx
  exact free b o' (neC b o e hx) e1 (I.base.free b o e n hx)
 ·obtain ⟨o', e1⟩ := I.base.there b o e hx
  exact there b o' (neC b o e hx) e1
 ·obtain ⟨m1, e1⟩ := I.base.tbls b ps e
  obtain ⟨m2, e2⟩ := tbls b _ e1
  exact ⟨m1 ++ m2, by rw [e2, Array.append_assoc]⟩
 ·obtain ⟨m, hn, hl⟩ := I.loc
  refine ⟨m, ns m hn, fun i x v e1 e2 e3 => ?_⟩
  obtain ⟨u, r, l⟩ := hl i x v e1 e2 e3
  refine ⟨u, r, ?_⟩
  rcases l with l | ⟨k, c, e, z⟩
  ·exact .inl l
  ·exact .inr ⟨k, c, e, cellK x c e _ z⟩
 ·obtain ⟨v, z⟩ := I.cell x c e
  exact ⟨v, cellK x c e v z⟩
 ·obtain ⟨m, ⟨o, _, _, ho, _⟩, _⟩ := I.loc
  exact free _ o (fun z => (hch _ z).2.1 rfl) ho I.free
 ·obtain ⟨v, o, ho, hd⟩ := I.cell x c e
  exact free c o (fun z => (hch c z).2.2.1 x c e rfl) ho (I.freeC x c e)
 ·obtain ⟨e, n, ne, nf, d⟩ := I.pin p hp
  have nch : p.1 ∉ ch := fun z => (hch p.1 z).2.2.2 p hp rfl
  exact ⟨keep p.1 p.2 ne nf nch e n, free p.1 p.2 nch e n, ne, nf, d⟩
theorem Inv.un {t' : Nat} (I : Inv X pins σ H s) (u : Un X.fs [] H H' s.heap h') (hok : HOk X.prog X.w H' h') : Inv X pins σ H' { s with heap := h', toks := t' } := by
 obtain ⟨m, ⟨o, es, ep, ho, r⟩, _⟩ := id I.loc
 obtain ⟨sl, hL⟩ := u.any ho I.free Z2
 exact I.step (g' := s.gens) (d' := s.drawn) (ch := []) (fun _ z => nomatch z) (fun b o _ hb _ e n => u.keep b o e n hb Z2) (fun b o _ hb _ e n => u.slot b o e n hb Z2) (fun b o _ e n => u.free b o e n Z2) (fun b o _ e => u.there b o e Z2) u.tups u.frzs u.tbls (fun m' hm => by
  obtain ⟨o', es', ep', ho', r'⟩ := hm
  rw [ho] at ho'; cases ho'
  exact ⟨_, es', ep', hL, r'⟩) hok I.bare
theorem Inv.call {g' : Array GenState} {t' : Nat} {d' : Drawn} {ch : List Addr} (I : Inv X pins σ H s) (u : Un (frs X.stack) ch H H' s.heap h') (hok : HOk X.prog X.w H' h') (hg : AllBare g')
  (hch : ∀ b ∈ ch, (b ∈ X.ex \/ X.s₀.heap.objs.size <= b) /\ b ≠ X.env.locals /\ (∀ x c, X.env.cells.lookup x = some c -> c ≠ b) /\ ∀ p ∈ X.pn ++ pins, p.1 ≠ b) :
  Inv X pins σ H' { s with heap := h', gens := g', drawn := d', toks := t' } := by
 obtain ⟨m, ⟨o, es, ep, ho, r⟩, _⟩ := id I.loc
 obtain ⟨sl, hL⟩ := u.any ho I.free fun z => (hch _ z).2.1 rfl
 exact I.step (ch := ch) hch (fun b o hL hb hc e n => u.keep b o e n (fun z => (mem_cons.mp (I.stkSub b z)).elim hL hb) hc) (fun b o _ _ hc e n => u.any e n hc) (fun b o hc e n => u.free b o e n hc) (fun b o hc e => u.there b o e hc) u.tups u.frzs u.tbls (fun m' hm => by
  obtain ⟨o', es', ep', ho', r'⟩ := hm
  rw [ho] at ho'; cases ho'
  exact ⟨_, es', ep', hL, r'⟩) hok hg
theorem Inv.turned {t' : Nat} {it : Addr} (I : Inv X pins σ H s) (k : ∀ b o, b ≠ it -> s.heap.get? b = some o -> h'.get? b = some o) (hn : H it = none) (hL : it ≠ X.env.locals)
  (h1 : it ∈ X.ex \/ X.s₀.heap.objs.size <= it) (h2 : ∀ x c, X.env.cells.lookup x = some c -> c ≠ it) (h3 : ∀ p ∈ X.pn ++ pins, p.1 ≠ it) : Inv X pins σ H { s with heap := h', toks := t' } := by
 have nit : ∀ b u, H b = some u -> b ≠ it := fun b u e z => by rw [z, hn] at e; cases e
 refine I.step (g' := s.gens) (d' := s.drawn) (ch := [it]) (fun b hb => ?_) (fun b o _ _ hc e _ => k b o (fun z => hc (by simp [z])) e) (fun b o _ _ hc e _ => ⟨o.slots, k b o (fun z => hc (by simp [z])) e⟩) (fun _ _ _ _ n => n)
  (fun b o hc e => ⟨o, k b o (fun z => hc (by simp [z])) e⟩) (fun _ _ e => e) (fun _ _ _ e => e) (fun b ps e => ⟨#[], by rw [e]; simp⟩) (fun m hm => ?_) (fun b u e => ?_) I.bare
 ·have e : b = it := by simpa using hb
  subst e
  exact ⟨h1, hL, h2, h3⟩
 ·obtain ⟨o, es, ep, ho, r⟩ := hm
  exact ⟨o, es, ep, k _ o (Ne.symm hL) ho, r⟩
 ·refine (I.hok b u e).stay (fun c v hc q => k c v ?_ q) (fun _ q => q) fun _ _ q => q
  rcases hc with z | z
  ·rw [z]; exact nit b u e
  ·exact nit c _ z
theorem Inv.tok (I : Inv X pins σ H s) (t : Nat) : Inv X pins σ H { s with toks := t } := I.un (h' := s.heap) (t' := t) Un.refl I.hok
theorem Inv.kept {t' : Nat} (I : Inv X pins σ H s) (k : ∀ b u, s.heap.get? b = some u -> h'.get? b = some u) : Inv X pins σ H { s with heap := h', toks := t' } := I.un (Un.kept k) (I.hok.kept k)
theorem Inv.laid {a : Addr} {o : HO} {t' : Nat} (I : Inv X pins σ H s) (k : ∀ b u, s.heap.get? b = some u -> h'.get? b = some u) (hp : s.heap.objs.size <= a) (new : bY X.prog X.w (upd H a o) h' a o) :
  Inv X pins σ (upd H a o) { s with heap := h', toks := t' } := I.un (Un.laid k hp (I.hok.fresh hp)) (I.hok.laid k hp new)
theorem Inv.write {x e : Addr} {o : HO} {t' : Nat} (I : Inv X pins σ H s) (mu : Mut (H x)) (he : e = x \/ H e = some (.own x)) (k : ∀ b u, b ≠ e -> s.heap.get? b = some u -> h'.get? b = some u) (heo : ∃ u, h'.get? e = some u)
  (new : bY X.prog X.w (upd H x o) h' x o) : Inv X pins σ (upd H x o) { s with heap := h', toks := t' } := I.un (Un.write mu he k heo) (I.hok.write mu he k heo new)
theorem Inv.pins_of {pins' : OP} (I : Inv X pins σ H s) (h : ∀ p ∈ pins', s.heap.get? p.1 = some p.2 /\ H p.1 = none /\ p.1 ≠ X.env.locals /\ p.1 ∉ X.fs /\ ∀ v, p.2.data ≠ .cell v) : Inv X pins' σ H s :=
 ⟨I.ok, I.os, I.bare, I.base, I.loc, I.cell, I.free, I.freeC, fun p hp => (mem_append.mp hp).elim (fun z => I.pin p (mem_append_left _ z)) (h p), I.hok, I.len⟩
theorem uD {N : List Str} (hN : N.Nodup) {i j : Nat} {x : Str} (a : N[i]? = some x) (b : N[j]? = some x) : i = j := by
 obtain ⟨h1, e1⟩ := List.getElem?_eq_some_iff.mp a
 obtain ⟨h2, e2⟩ := List.getElem?_eq_some_iff.mp b
 exact (List.getElem_inj hN).mp (e1.trans e2.symm)
theorem wj {M : Model} {A : Around} {E : EV} {i : Nat} {x : Str} {v : V} {u : Value} {Q : Unit -> Shared -> Prop} (I : Inv X pins σ H s) (hN : X.N.Nodup) (hi : X.N[i]? = some x) (hx : Loc X.env.scope x) (r : RelV v u)
  (h : ∀ s', Inv X pins (σ.set i (some v)) H s' -> (∃ a, Heap.SameBut a s.heap s'.heap /\ (a = X.env.locals \/ X.env.cells.lookup x = some a)) -> Q () s') (hf : X.fn x = true \/ X.env.scope.names.lookup x = some .local := by first | exact .inl rfl | exact .inr rfl | assumption) : wpAny M A (storeName X.env x u) Q E s := by
 obtain ⟨m, hn, hl⟩ := id I.loc
 have hcls : (X.env.scope.kind == .class || (X.env.scope.kind == .module && X.env.locals != X.env.globals)) = false := by rw [I.ok.kind]; rfl
 have hiσ : i < σ.length := by rw [I.len]; exact (List.getElem?_eq_some_iff.mp hi).1
 have cne := I.cne
 have tracked : ∀ {a : Addr} {h' : Heap}, (∃ o, s.heap.get? a = some o /\ H a = none) -> Heap.SameBut a s.heap h' -> HOk X.prog X.w H h' := fun {a h'} ha hs b ob e => by
  obtain ⟨_, _, hfree⟩ := ha
  refine (I.hok b ob e).stay (fun c w' hc q => (hs.2 c ?_).trans q) (fun _ q => q) fun _ _ q => q
  rintro rfl
  rcases hc with rfl | hc
  ·rw [hfree] at e; cases e
  ·rw [hfree] at hc; cases hc
 rcases hx with hk | hk
 ·refine wpAny_storeName_local hk hn (fun h' hn' hs => ?_) hcls
  obtain ⟨oL, _, _, hoL, _⟩ := id hn
  refine h _ ⟨I.ok, I.os, I.bare, ⟨fun b o e n hb hx => ?_, fun b o e n hb hx => ?_, I.base.free, fun b o e hx => ?_, I.base.tups, I.base.frzs, I.base.tbls⟩, ⟨_, hn', fun j y v' e1 e2 e3 => ?_⟩, fun y c e => ?_, I.free, I.freeC, fun p hp => ?_, tracked ⟨oL, hoL, I.free⟩ hs, by simpa using I.len⟩ ⟨_, hs, .inl rfl⟩
  ·exact (hs.2 b (ne_of_lt (lt_of_lt_of_le (Heap.lt_size e) I.ok.above))).trans (I.base.keep b o e n hb hx)
  ·obtain ⟨sl, e1⟩ := I.base.slot b o e n hb hx
   exact ⟨sl, (hs.2 b (ne_of_lt (lt_of_lt_of_le (Heap.lt_size e) I.ok.above))).trans e1⟩
  ·obtain ⟨o', e1⟩ := I.base.there b o e hx
   exact ⟨o', (hs.2 b (ne_of_lt (lt_of_lt_of_le (Heap.lt_size e) I.ok.above))).trans e1⟩
  ·by_cases hj : j = i
   ·subst hj
    rw [hi] at e1; cases e1
    rw [List.getElem?_set_self hiσ] at e2
    cases e2
    exact ⟨u, r, .inl ⟨hk, Z2⟩⟩
   ·rw [List.getElem?_set_ne (Ne.symm hj)] at e2
    obtain ⟨u', r', q⟩ := hl j y v' e1 e2 e3
    refine ⟨u', r', ?_⟩
    rcases q with ⟨k, e⟩ | ⟨k, c, e, z⟩
    ·refine .inl ⟨k, ?_⟩
     have : y ≠ x := fun e => hj (uD hN e1 (e ▸ hi))
     simp [this, e]
    ·exact .inr ⟨k, c, e, z.sameBut hs (cne y c e)⟩
  ·obtain ⟨w', z⟩ := I.cell y c e
   exact ⟨w', z.sameBut hs (cne y c e)⟩
  ·obtain ⟨e, n, ne, nf, d⟩ := I.pin p hp
   exact ⟨(hs.2 p.1 ne).trans e, n, ne, nf, d⟩
 ·have hfn : X.fn x = true := by
   rcases hf with z | z
   ·exact z
   ·rw [z] at hk; cases hk
  obtain ⟨c, hc⟩ := I.ok.has x (.inl hk)
  obtain ⟨w', z⟩ := I.cell x c hc
  refine wpAny_storeName_cell I.ok.kind hk hc z (fun h' hc' hs => ?_)
  obtain ⟨oc, hoc, hocd⟩ := id z
  refine h { s with heap := h' } ⟨I.ok, I.os, I.bare, ⟨fun b o e n hb hx => ?_, fun b o e n hb hx => ?_, I.base.free, fun b o e hx => ?_, I.base.tups, I.base.frzs, I.base.tbls⟩, ⟨m, hn.sameBut hs (Ne.symm (cne x c hc)), fun j y v' e1 e2 e3 => ?_⟩, fun y c' e => ?_, I.free, I.freeC, fun p hp => ?_, tracked ⟨oc, hoc, I.freeC x c hc⟩ hs, by simpa using I.len⟩ ⟨c, hs, .inr hc⟩
  ·exact (hs.2 b (ne_of_lt (lt_of_lt_of_le (Heap.lt_size e) (I.ok.cab x c hfn hc)))).trans (I.base.keep b o e n hb hx)
  ·obtain ⟨sl, e1⟩ := I.base.slot b o e n hb hx
   exact ⟨sl, (hs.2 b (ne_of_lt (lt_of_lt_of_le (Heap.lt_size e) (I.ok.cab x c hfn hc)))).trans e1⟩
  ·obtain ⟨o', e1⟩ := I.base.there b o e hx
   exact ⟨o', (hs.2 b (ne_of_lt (lt_of_lt_of_le (Heap.lt_size e) (I.ok.cab x c hfn hc)))).trans e1⟩
  ·by_cases hj : j = i
   ·subst hj
    rw [hi] at e1; cases e1
    rw [List.getElem?_set_self hiσ] at e2
    cases e2
    exact ⟨u, r, .inr ⟨.inl hk, c, hc, hc'⟩⟩
   ·rw [List.getElem?_set_ne (Ne.symm hj)] at e2
    obtain ⟨u', r', q⟩ := hl j y v' e1 e2 e3
    refine ⟨u', r', ?_⟩
    rcases q with q | ⟨k, c', e, z'⟩
    ·exact .inl q
    ·refine .inr ⟨k, c', e, z'.sameBut hs ?_⟩
     rintro rfl
     exact hj (uD hN e1 (I.ok.inj _ _ _ e hc ▸ hi))
  ·by_cases hcc : c' = c
   ·subst hcc; exact ⟨_, hc'⟩
   ·obtain ⟨w2, z2⟩ := I.cell y c' e
    exact ⟨w2, z2.sameBut hs hcc⟩
  ·obtain ⟨e, n, ne, nf, d⟩ := I.pin p hp
   refine ⟨(hs.2 p.1 ?_).trans e, n, ne, nf, d⟩
   intro q
   rw [q, hoc] at e
   have q' : oc = p.2 := Option.some.inj e
   exact d w' (by rw [<- q']; exact hocd)
theorem qi {M : Model} {A : Around} {E : EV} {i : Nat} {x : Str} {v : V} {u : Value} {Q : Unit -> Shared -> Prop} (I : Inv X pins σ H s) (hN : X.N.Nodup) (hi : X.N[i]? = some x) (hx : Loc X.env.scope x) (r : RelV v u)
  (h : ∀ s', Inv X pins (σ.set i (some v)) H s' -> Q () s') (hf : X.fn x = true \/ X.env.scope.names.lookup x = some .local := by first | exact .inl rfl | exact .inr rfl | assumption) : wpAny M A (storeName X.env x u) Q E s :=
 wj I hN hi hx r (fun s' I' _ => h s' I') hf
theorem Inv.call' {s' : Shared} {ch : List Addr} (I : Inv X pins σ H s) (ho : s'.os = s.os) (u : Un (frs X.stack) ch H H' s.heap s'.heap) (hok : HOk X.prog X.w H' s'.heap) (hg : AllBare s'.gens)
  (hch : ∀ b ∈ ch, (b ∈ X.ex \/ X.s₀.heap.objs.size <= b) /\ b ≠ X.env.locals /\ (∀ x c, X.env.cells.lookup x = some c -> c ≠ b) /\ ∀ p ∈ X.pn ++ pins, p.1 ≠ b) : Inv X pins σ H' s' := by
 obtain ⟨h', g', d', t', o'⟩ := s'
 have e : o' = s.os := ho
 subst e
 exact I.call (g' := g') (t' := t') (d' := d') u hok hg hch
end
abbrev XK := Value -> Option Addr -> Hp -> Prop
abbrev St := List (Option V)
abbrev VK := V -> Hp -> Prop
abbrev TE := St -> Hp -> VK -> Prop
abbrev TT := St -> Hp -> (Bool -> Hp -> Prop) -> Prop
abbrev TA := St -> Hp -> (List V -> Hp -> Prop) -> Prop
structure Ends where
 nx : St -> Hp -> Prop
 rt : VK
 bk : St -> Hp -> Prop := fun _ _ => False
 ct : St -> Hp -> Prop := fun _ _ => False
abbrev TS := Ends -> St -> Hp -> Prop
def EP (X : Cx) (pins : OP) (σ : St) (Q : VK) (u : Value) (s' : Shared) : Prop := ∃ v H', Inv X pins σ H' s' /\ RelV v u /\ Q v H'
def TP (X : Cx) (pins : OP) (σ : St) (Q : Bool -> Hp -> Prop) (b : Bool) (s' : Shared) : Prop := ∃ H', Inv X pins σ H' s' /\ Q b H'
def AP (X : Cx) (pins : OP) (σ : St) (Q : List V -> Hp -> Prop) (us : List Value) (s' : Shared) : Prop := ∃ vs H', Inv X pins σ H' s' /\ Vals vs us /\ Q vs H'
def SP (X : Cx) (pins : OP) (D : Ends) (f : Flow) (s' : Shared) : Prop :=
 match f with
 | .next => ∃ σ' H', Inv X pins σ' H' s' /\ D.nx σ' H'
 | .brk => ∃ σ' H', Inv X pins σ' H' s' /\ D.bk σ' H'
 | .cont => ∃ σ' H', Inv X pins σ' H' s' /\ D.ct σ' H'
 | .ret u => ∃ v σ' H', Inv X pins σ' H' s' /\ RelV v u /\ D.rt v H'
def PE (X : Cx) (e : Expr) (t : TE) : Prop :=
 ∀ (pins : OP) (s : Shared) (σ : St) (H : Hp) (Q : VK), Inv X pins σ H s -> t σ H Q -> wpAny (model X.prog X.w) X.A (eval e X.env) (EP X pins σ Q) X.xe s
def PT (X : Cx) (e : Expr) (t : TT) : Prop :=
 ∀ (pins : OP) (s : Shared) (σ : St) (H : Hp) (Q : Bool -> Hp -> Prop), Inv X pins σ H s -> t σ H Q -> wpAny (model X.prog X.w) X.A (isTrue e X.env (eval e X.env)) (TP X pins σ Q) X.xe s
def PW (X : Cx) (e : Expr) (t : TT) : Prop :=
 ∀ (whole : Sem Value) (pins : OP) (s : Shared) (σ : St) (H : Hp) (Q : Bool -> Hp -> Prop), Inv X pins σ H s -> t σ H Q -> wpAny (model X.prog X.w) X.A (isTrue e X.env whole) (TP X pins σ Q) X.xe s
theorem PW.pt {X : Cx} {e : Expr} {t : TT} (h : PW X e t) : PT X e t := h _
def PA (X : Cx) (es : List Expr) (t : TA) : Prop :=
 ∀ (pos : Pos) (pins : OP) (s : Shared) (σ : St) (H : Hp) (Q : List V -> Hp -> Prop), Inv X pins σ H s -> t σ H Q -> wpAny (model X.prog X.w) X.A (spliced (backTo pos (starEach es X.env))) (AP X pins σ Q) X.xe s
def PS (X : Cx) (st : Stmt) (t : TS) : Prop :=
 ∀ (pins : OP) (s : Shared) (σ : St) (H : Hp) (D : Ends), Inv X pins σ H s -> t D σ H -> wpAny (model X.prog X.w) X.A (exec st X.env) (SP X pins D) X.xe s
def PSs (X : Cx) (st : List Stmt) (t : TS) : Prop :=
 ∀ (pins : OP) (s : Shared) (σ : St) (H : Hp) (D : Ends), Inv X pins σ H s -> t D σ H -> wpAny (model X.prog X.w) X.A (execs st X.env) (SP X pins D) X.xe s
theorem thn {α : Type} {t : Sem α} {Q Q' : α -> Shared -> Prop} {M : Model} {A : Around} {E : EV} {s : Shared} (h : wpAny M A t Q E s) (hQ : ∀ a s, Q a s -> Q' a s) : wpAny M A t Q' E s := wpAny_mono h hQ fun _ _ x => x
section
variable {X : Cx}
def yE (i : Nat) : TE := fun σ H Q => ∃ v, σ[i]? = some (some v) /\ Q v H
def tC (v : V) : TE := fun _ H Q => Q v H
theorem Ln {i : Nat} {x : Str} {pos : Pos} (hN : X.N[i]? = some x) (hv : Vis X.env.scope x) (hd : (x == ("__debug__" : Str)) = false := by decide) (hcd : (x == ("__classdict__" : Str)) = false := by decide) : PE X (.Name x pos) (yE i) := by
 intro pins s σ H Q I h
 obtain ⟨v, e, h⟩ := h
 obtain ⟨m, hn, hl⟩ := I.loc
 obtain ⟨u, r, l⟩ := hl i x v hN e hv
 have fin : EP X pins σ Q u s := ⟨v, H, I, r, h⟩
 rcases l with ⟨hk, hm⟩ | ⟨hk, c, hc, hcell⟩
 ·exact wpAny_Name (wpAny_loadName_local I.ok.kind hk hn hm fin) hd
 ·rcases hk with hk | hk
  ·exact wpAny_Name (wpAny_loadName_cell I.ok.kind hk hc hcell fin) hd
  ·exact wpAny_Name (wpAny_loadName_free I.ok.kind hk hc hcell fin hcd) hd
theorem au {i j pos} : PE X (.Constant (.int i) j pos) (tC (.int i)) := fun _ _ _ H _ I h => wpAny_Constant_int ⟨.int i, H, I.tok _, ⟨_, rfl⟩, h⟩
theorem pB {b j pos} : PE X (.Constant (.bool b) j pos) (tC (.bl b)) := fun _ _ _ H _ I h => Constant_bool ⟨.bl b, H, I, rfl, h⟩
theorem rK {j pos} : PE X (.Constant .none j pos) (tC .non) := fun _ _ _ H _ I h => Constant_none ⟨.non, H, I, rfl, h⟩
theorem aC {x j pos} : PE X (.Constant (.str x) j pos) (tC (.str x)) := fun _ _ _ H _ I h => Calls.Constant_str ⟨.str x, H, I.tok _, ⟨_, rfl⟩, h⟩
def Gl (X : Cx) (x : Str) : Prop := X.env.kindOf x = some .globalImplicit
theorem iK {E : EV} {pins : OP} {s : Shared} {σ : St} {H : Hp} {x : Str} {u : Value} {pos : Pos} {Q : EV} (I : Inv X pins σ H s) (hg : Gl X x) (hm : X.mg x = some u) (h : Q u s)
  (hd : (x == ("__debug__" : Str)) = false := by decide) : wpAny (model X.prog X.w) X.A (eval (.Name x pos) X.env) Q E s :=
 Calls.Name_function_global I.ok.kind hg (Calls.loadGlobal_global (by rw [I.ok.glob]; exact I.mod.glob.keeps I.bk) hm h) hd
theorem u0 {E : EV} {pins : OP} {s : Shared} {σ : St} {H : Hp} {x : Str} {u : Value} {pos : Pos} {Q : EV} (I : Inv X pins σ H s) (hg : Gl X x) (hm : X.mg x = none) (hv : bootBuiltins x = some u) (h : Q u s)
  (hn : x ≠ "__name__" := by decide) (hd : (x == ("__debug__" : Str)) = false := by decide) : wpAny (model X.prog X.w) X.A (eval (.Name x pos) X.env) Q E s := by
 obtain ⟨mb, h1, h2⟩ := I.mod.blt
 exact Calls.Name_function_global I.ok.kind hg (Calls.loadGlobal_builtin (by rw [I.ok.glob]; exact I.mod.glob.keeps I.bk) hm (by rw [I.ok.blt]; exact h1.keeps I.bk) ((h2 x hn).trans hv) h) hd
theorem yr {x : Str} {v : V} {u : Value} {pos : Pos} (hg : Gl X x) (hm : X.mg x = some u) (r : RelV v u) (hd : (x == ("__debug__" : Str)) = false := by decide) : PE X (.Name x pos) (tC v) :=
 fun _ _ _ H _ I h => iK I hg hm ⟨v, H, I, r, h⟩ hd
variable {a b : Expr} {ta tb : TE} {pos : Pos}
def tB (t : TE) : TT := fun σ H Q => t σ H fun x H1 => ∃ c, x = .bl c /\ Q c H1
theorem fZ {e : Expr} {t : TE} (h : PE X e t) (he : ∀ whole, isTrue e X.env whole = (do let v <- whole; standAt e.pos; holding [v] (truthy v)) := by intro _; rfl) : PT X e (tB t) := by
 intro pins s σ H Q I hw
 refine isTrue_plain (thn (h pins s σ H _ I hw) fun v s1 ⟨x, H1, I1, r1, q1⟩ => ?_) (he _)
 obtain ⟨d, rfl, q⟩ := q1
 cases r1
 exact wpAny_truthy_bool ⟨H1, I1, q⟩
variable {tA tB' : TT} {rest : List Expr}
def QQ (t u : TT) : TT := fun σ H Q => t σ H fun c H1 => if c = true then u σ H1 Q else Q false H1
def tOr (t u : TT) : TT := fun σ H Q => t σ H fun c H1 => if c = true then Q true H1 else u σ H1 Q
def QW (t : TT) : TT := fun σ H Q => t σ H fun c H1 => Q (!c) H1
theorem gH (ha : PT X a tA) : PW X (.BoolOp .And [a] pos) tA := by
 intro wh pins s σ H Q I h
 refine isTrue_and (thn (ha pins s σ H Q I h) fun c s1 e => ?_)
 cases c with
 | true => exact isTrue_and_nil e
 | false => exact e
theorem uY (ha : PT X a tA) : PW X (.BoolOp .Or [a] pos) tA := by
 intro wh pins s σ H Q I h
 refine isTrue_or (thn (ha pins s σ H Q I h) fun c s1 e => ?_)
 cases c with
 | false => exact isTrue_or_nil e
 | true => exact e
theorem iH (ha : PT X a tA) (hb : PW X (.BoolOp .And (b :: rest) pos) tB') : PW X (.BoolOp .And (a :: b :: rest) pos) (QQ tA tB') := by
 intro wh pins s σ H Q I h
 refine isTrue_and (thn (ha pins s σ H _ I h) fun c s1 ⟨H1, I1, q1⟩ => ?_)
 cases c with
 | true => exact hb wh pins s1 σ H1 Q I1 q1
 | false => exact ⟨H1, I1, q1⟩
theorem vZ (ha : PT X a tA) (hb : PW X (.BoolOp .Or (b :: rest) pos) tB') : PW X (.BoolOp .Or (a :: b :: rest) pos) (tOr tA tB') := by
 intro wh pins s σ H Q I h
 refine isTrue_or (thn (ha pins s σ H _ I h) fun c s1 ⟨H1, I1, q1⟩ => ?_)
 cases c with
 | true => exact ⟨H1, I1, q1⟩
 | false => exact hb wh pins s1 σ H1 Q I1 q1
theorem xr (ha : PT X a tA) : PT X (.UnaryOp .Not a pos) (QW tA) := by
 intro pins s σ H Q I h
 exact isTrue_not (ha pins s σ H (fun c H1 => Q (!c) H1) I h)
def O5 (ta tb : TE) : TE := fun σ H Q => ta σ H fun x H1 => ∃ c, x = .bl c /\ if c = true then tb σ H1 Q else Q (.bl false) H1
theorem NK {op} {t : TE} (h : PE X a t) : PE X (.BoolOp op [a] pos) t := fun pins s σ H Q I hw => BoolOp_one (h pins s σ H Q I hw)
theorem Mt (ha : PE X a ta) (hb : PE X (.BoolOp .And (b :: rest) pos) tb) : PE X (.BoolOp .And (a :: b :: rest) pos) (O5 ta tb) := by
 intro pins s σ H Q I h
 refine BoolOp_and (thn (ha pins s σ H _ I h) fun v s1 ⟨x, H1, I1, r1, q1⟩ => ?_)
 obtain ⟨c, rfl, q1⟩ := q1
 cases r1
 refine wpAny_truthy_bool ?_
 cases c with
 | true => exact hb pins s1 σ H1 Q I1 q1
 | false => exact ⟨.bl false, H1, I1, rfl, q1⟩
def tIf (t : TT) (ta tb : TE) : TE := fun σ H Q => t σ H fun c H1 => if c = true then ta σ H1 Q else tb σ H1 Q
theorem zy {c : Expr} (hc : PT X c tA) (ha : PE X a ta) (hb : PE X b tb) : PE X (.IfExp c a b pos) (tIf tA ta tb) := by
 intro pins s σ H Q I h
 refine wpAny_IfExp (thn (hc pins s σ H _ I h) fun d s1 ⟨H1, I1, q1⟩ => ?_)
 cases d with
 | true => exact ha pins s1 σ H1 Q I1 q1
 | false => exact hb pins s1 σ H1 Q I1 q1
end
def SqL (K : Frag) (H : Hp) (a : Addr) (xs : List V) : Prop :=
 Rd H a (.lst xs) \/
  ∃ (o : Obj) (its : Array Value) (n : Nat), K.lookup a = some o /\ o.cls = .type "list" /\ o.dict = none /\ o.data = .seq its n /\ its.size <= sizeLine /\ Vals xs its.toList
def SqT (K : Frag) (H : Hp) (a : Addr) (xs : List V) : Prop :=
 Rd H a (.tup xs) \/
  ∃ (o : Obj) (its : Array Value) (n : Nat), K.lookup a = some o /\ o.cls = .type "tuple" /\ o.data = .seq its n /\ its.size <= sizeLine /\ Vals xs its.toList
def QJ : Value -> Option V
 | .none => some .non
 | .bool b => some (.bl b)
 | .int i _ => some (.int i)
 | .str x _ => some (.str x)
 | .bytes b _ => some (.byt b)
 | .float b _ => some (.flt b)
 | .ref a => some (.ref a)
 | .type n => some (.ty n)
 | _ => none
theorem RelV.abs {x : V} {u : Value} (r : RelV x u) : QJ u = some x := by
 cases x with
 | non => cases r; rfl
 | bl _ => cases r; rfl
 | int _ => obtain ⟨t, rfl⟩ := r; rfl
 | str _ => obtain ⟨t, rfl⟩ := r; rfl
 | byt _ => obtain ⟨t, rfl⟩ := r; rfl
 | flt _ => obtain ⟨t, rfl⟩ := r; rfl
 | ref _ => cases r; rfl
 | ty _ => cases r; rfl
theorem RelV.inj {x y : V} {u : Value} (r : RelV x u) (q : RelV y u) : x = y := Option.some.inj (r.abs.symm.trans q.abs)
theorem Vals.inj : ∀ {xs ys : List V} {us : List Value}, Vals xs us -> Vals ys us -> xs = ys
 | _, _, _, .nil, .nil => rfl
 | _, _, _, .cons r t, .cons r' t' => by rw [r.inj r', Vals.inj t t']
section
variable {X : Cx} {pins : OP} {σ : St} {H : Hp} {s : Shared} {a : Addr} {xs ys : List V}
theorem SqL.of {K : Frag} (h : H a = some (.lst xs)) : SqL K H a xs := .inl (.inl h)
theorem SqT.of {K : Frag} (h : H a = some (.tup xs)) : SqT K H a xs := .inl (.inl h)
theorem Inv.list (I : Inv X pins σ H s) (h : SqL X.K H a xs) : ∃ its : List Value, Vals xs its /\ PlainL s.heap a its.toArray /\ xs.length <= sizeLine := by
 rcases h with h | ⟨o, its, n, hk, hc, hd, hs, hz, r⟩
 ·obtain ⟨z, its, n, r, e⟩ := h.ok I.hok
  exact ⟨its, r, ⟨_, n, e, rfl, rfl, rfl⟩, z⟩
 ·refine ⟨its.toList, r, ⟨o, n, I.kIn a o hk, hc, hd, by simpa using hs⟩, ?_⟩
  have e := r.length
  simp only [length_toList] at e
  omega
theorem Inv.tuple (I : Inv X pins σ H s) (h : SqT X.K H a xs) : ∃ its : List Value, Vals xs its /\ IsTup s.heap a its.toArray /\ xs.length <= sizeLine := by
 rcases h with h | ⟨o, its, n, hk, hc, hs, hz, r⟩
 ·obtain ⟨z, its, r, p⟩ := h.ok I.hok
  exact ⟨its, r, p, z⟩
 ·refine ⟨its.toList, r, ⟨o, I.kIn a o hk, hc, n, by simpa using hs⟩, ?_⟩
  have e := r.length
  simp only [length_toList] at e
  omega
theorem Inv.list_inj (I : Inv X pins σ H s) (h : SqL X.K H a xs) (h' : SqL X.K H a ys) : xs = ys := by
 obtain ⟨its, r, ⟨o, n, e, _, _, d⟩, _⟩ := I.list h
 obtain ⟨its', r', ⟨o', n', e', _, _, d'⟩, _⟩ := I.list h'
 rw [e] at e'; cases e'
 rw [d] at d'
 injection d' with d1 _
 have : its = its' := by simpa using congrArg Array.toList d1
 subst this
 exact r.inj r'
end
abbrev Cx.wish (X : Cx) (E : EV) : Cx := { X with xe := E }
abbrev Cx.nox (X : Cx) : Cx := X.wish fun _ _ => False
theorem Cx.Ok.wish {X : Cx} (ok : X.Ok) (E : EV) : (X.wish E).Ok :=
 ⟨ok.mod, ok.kind, ok.glob, ok.blt, ok.above, ok.inj, ok.has, ok.cab, ok.hd, ok.frames, ok.stk, ok.exf, ok.bs, ok.bsz, ok.noex, ok.exfs, ok.funs, ok.frf⟩
theorem Cx.Ok.unwish {X : Cx} {E : EV} (ok : (X.wish E).Ok) : X.Ok :=
 ⟨ok.mod, ok.kind, ok.glob, ok.blt, ok.above, ok.inj, ok.has, ok.cab, ok.hd, ok.frames, ok.stk, ok.exf, ok.bs, ok.bsz, ok.noex, ok.exfs, ok.funs, ok.frf⟩
section
variable {X : Cx} {pins : OP} {σ : St} {H : Hp} {s : Shared} {E : EV}
theorem Inv.wish (I : Inv X pins σ H s) (E : EV) : Inv (X.wish E) pins σ H s := ⟨I.ok.wish E, I.os, I.bare, I.base, I.loc, I.cell, I.free, I.freeC, I.pin, I.hok, I.len⟩
theorem Inv.unwish (I : Inv (X.wish E) pins σ H s) : Inv X pins σ H s := ⟨I.ok.unwish, I.os, I.bare, I.base, I.loc, I.cell, I.free, I.freeC, I.pin, I.hok, I.len⟩
theorem SP.unwish {D : Ends} {f : Flow} {s' : Shared} (h : SP (X.wish E) pins D f s') : SP X pins D f s' := by
 cases f with
 | next => obtain ⟨σ', H', I, q⟩ := h; exact ⟨σ', H', I.unwish, q⟩
 | brk => obtain ⟨σ', H', I, q⟩ := h; exact ⟨σ', H', I.unwish, q⟩
 | cont => obtain ⟨σ', H', I, q⟩ := h; exact ⟨σ', H', I.unwish, q⟩
 | ret u => obtain ⟨v, σ', H', I, r, q⟩ := h; exact ⟨v, σ', H', I.unwish, r, q⟩
theorem PSs.nox {st : List Stmt} {t : TS} (h : PSs X.nox st t) : PSs X st t := fun pins s σ H D I hw =>
 wpAny_mono (h pins s σ H D (I.wish _) hw) (fun _ _ q => q.unwish) fun _ _ z => False.elim z
end
section
variable {X : Cx} {st : Stmt} {rest : List Stmt} {t u : TS} {e : Expr} {te : TE} {pos : Pos}
def KJ : TS := fun D σ H => D.nx σ H
def Qg (t u : TS) : TS := fun D σ H => t { D with nx := u D } σ H
theorem tW : PSs X [] KJ := fun _ _ σ H _ I h => wpAny_execs_nil ⟨σ, H, I, h⟩
theorem gq (h1 : PS X st t) (h2 : PSs X rest u) : PSs X (st :: rest) (Qg t u) := by
 intro pins s σ H D I h
 refine wpAny_execs_cons (thn (h1 pins s σ H { D with nx := u D } I h) fun f s1 q => ?_)
 cases f with
 | next =>
  obtain ⟨σ', H', I', q⟩ := q
  exact h2 pins s1 σ' H' D I' q
 | ret v => exact q
 | brk => exact q
 | cont => exact q
theorem lZ (h1 : PS X st t) : PSs X [st] t := by
 intro pins s σ H D I h
 refine wpAny_execs_cons (thn (h1 pins s σ H D I h) fun f s1 q => ?_)
 cases f with
 | next => exact wpAny_execs_nil q
 | ret v => exact q
 | brk => exact q
 | cont => exact q
theorem Inv.quiet {pins : OP} {σ : St} {H : Hp} {s : Shared} (I : Inv X pins σ H s) : interactive X.env = false := by simp [interactive, I.ok.kind]
def Il (te : TE) : TS := fun D σ H => te σ H fun _ H1 => D.nx σ H1
theorem Kc (he : PE X e te) (hs : swapsWith e none pos.line X.env = pure false := by rfl) : PS X (.Expr e pos) (Il te) := by
 intro pins s σ H D I h
 exact wpAny_Expr_any (thn (he pins s σ H _ I h) fun v s1 ⟨x, H1, I1, r1, q1⟩ => ⟨σ, H1, I1, q1⟩) I.quiet hs
def JZ (te : TE) : TS := fun D σ H => te σ H D.rt
theorem pN (he : PE X e te) : PS X (.Return (some e) pos) (JZ te) := by
 intro pins s σ H D I h
 exact wpAny_Return_some (thn (he pins s σ H _ I h) fun v s1 ⟨x, H1, I1, r1, q1⟩ => ⟨x, σ, H1, I1, r1, q1⟩)
def Qh (c : TT) (t u : TS) : TS := fun D σ H => c σ H fun b H1 => if b = true then t D σ H1 else u D σ H1
theorem Dq {c : Expr} {a b : List Stmt} {tc : TT} (hc : PT X c tc) (ha : PSs X a t) (hb : PSs X b u) : PS X (.If c a b pos) (Qh tc t u) := by
 intro pins s σ H D I h
 refine wpAny_If (thn (hc pins s σ H _ I h) fun d s1 ⟨H1, I1, q1⟩ => ?_)
 cases d with
 | true => exact ha pins s1 σ H1 D I1 q1
 | false => exact hb pins s1 σ H1 D I1 q1
end
abbrev TG := V -> St -> Hp -> (St -> Hp -> Prop) -> Prop
abbrev TGs := List V -> St -> Hp -> (St -> Hp -> Prop) -> Prop
def PG (X : Cx) (target : Expr) (t : TG) : Prop :=
 ∀ (pins : OP) (s : Shared) (σ : St) (H : Hp) (v : V) (u : Value) (Q : St -> Hp -> Prop), Inv X pins σ H s -> RelV v u -> t v σ H Q ->
  wpAny (model X.prog X.w) X.A (assign target X.env u) (fun _ s' => ∃ σ' H', Inv X pins σ' H' s' /\ Q σ' H') X.xe s
def PGs (X : Cx) (ts : List Expr) (t : TGs) : Prop :=
 ∀ (pins : OP) (s : Shared) (σ : St) (H : Hp) (vs : List V) (us : List Value) (Q : St -> Hp -> Prop), Inv X pins σ H s -> Vals vs us -> t vs σ H Q ->
  wpAny (model X.prog X.w) X.A (assignInOrder ((assignEach ts X.env).map (·.2)) us) (fun _ s' => ∃ σ' H', Inv X pins σ' H' s' /\ Q σ' H') X.xe s
section
variable {X : Cx} {pos : Pos}
def jJ (i : Nat) : TG := fun v σ H Q => Q (σ.set i (some v)) H
theorem aJ {i : Nat} {x : Str} (hN : X.N.Nodup) (hi : X.N[i]? = some x) (hx : Loc X.env.scope x) (hf : X.fn x = true \/ X.env.scope.names.lookup x = some .local := by first | exact .inl rfl | exact .inr rfl | assumption) : PG X (.Name x pos) (jJ i) := by
 intro pins s σ H v u Q I r h
 exact wpAny_assign_Name (qi I hN hi hx r (fun s' I' => ⟨_, H, I', h⟩) hf)
def Q7 : TGs := fun vs σ H Q => vs = [] /\ Q σ H
def PP (t : TG) (u : TGs) : TGs := fun vs σ H Q => ∃ v r, vs = v :: r /\ t v σ H fun σ' H' => u r σ' H' Q
theorem jO : PGs X [] Q7 := by
 intro pins s σ H vs us Q I r h
 obtain ⟨e, h⟩ := h
 subst e
 cases r
 exact assignInOrder_nil ⟨σ, H, I, h⟩
theorem bG {e : Expr} {es : List Expr} {t : TG} {u : TGs} (h1 : PG X e t) (h2 : PGs X es u)
  (hs : (assignEach (e :: es) X.env).map (·.2) = assign e X.env :: (assignEach es X.env).map (·.2) := by rfl) : PGs X (e :: es) (PP t u) := by
 intro pins s σ H vs us Q I r h
 obtain ⟨v, vr, e1, h⟩ := h
 subst e1
 cases r with
 | cons r rr =>
  rw [hs]
  refine assignInOrder_cons (thn (h1 pins s σ H _ _ _ I r h) fun _ s1 ⟨σ1, H1, I1, q1⟩ => ?_)
  exact h2 pins s1 σ1 H1 _ _ Q I1 rr q1
def Qj (K : Frag) (n : Nat) (t : TGs) : TG := fun v σ H Q => ∃ a xs, v = .ref a /\ SqT K H a xs /\ xs.length = n /\ t xs σ H Q
theorem Nx {es : List Expr} {k : Nat} {t : TGs} {n : Nat} (hc : X.calm = true) (h : PGs X es t)
  (hn : (assignEach es X.env).length = n := by rfl) (hst : (assignEach es X.env).findIdx? (·.1) = none := by rfl) : PG X (.Tuple es k pos) (Qj X.K n t) := by
 intro pins s σ H v u Q I r hw
 obtain ⟨a, xs, e1, hq, hl, hw⟩ := hw
 subst e1
 cases r
 obtain ⟨its, rv, ht, hz⟩ := I.tuple hq
 refine assign_Tuple_tuple (I.ok.hd hc) ht (by simp [hn, <- hl, rv.length]) hst fun h' hx => ?_
 have I1 : Inv X pins σ H { s with heap := h' } := I.kept (t' := s.toks) fun b o e => hx b o (ne_of_lt (Heap.lt_size e)) e
 exact h pins _ σ H xs _ Q I1 (by simpa using rv) hw
def Bq (te : TE) (g : TG) : TS := fun D σ H => te σ H fun x H1 => g x σ H1 D.nx
theorem LC {tg e : Expr} {te : TE} {g : TG} (he : PE X e te) (hg : PG X tg g) (hs : swapsWithSole [tg] e pos.line X.env = pure false := by rfl) (hw : swappedStores [tg] e X.env = pure none := by rfl)
  (h1 : (assignEach [tg] X.env).map (·.2) = [assign tg X.env] := by rfl) : PS X (.Assign [tg] e pos) (Bq te g) := by
 intro pins s σ H D I h
 refine wpAny_Assign_stores (thn (he pins s σ H _ I h) fun v s1 ⟨x, H1, I1, r1, q1⟩ => ?_) hs hw
 rw [h1]
 exact thn (hg pins s1 σ H1 x v _ I1 r1 q1) fun _ s2 q => q
theorem pR {i : Nat} {x : Str} {e : Expr} {te : TE} {pos' : Pos} (hN : X.N.Nodup) (hi : X.N[i]? = some x) (hx : Loc X.env.scope x) (he : PE X e te) (hs : swapsWith e (some (.Name x pos')) pos.line X.env = pure false := by rfl) (hf : X.fn x = true \/ X.env.scope.names.lookup x = some .local := by first | exact .inl rfl | exact .inr rfl | assumption) :
  PS X (.Assign [.Name x pos'] e pos) (Bq te (jJ i)) := by
 intro pins s σ H D I h
 refine wpAny_Assign_Name (thn (he pins s σ H _ I h) fun v s1 ⟨y, H1, I1, r1, q1⟩ => ?_) hs
 exact qi I1 hN hi hx r1 (fun s2 I2 => ⟨_, H1, I2, q1⟩) hf
end
section
variable {X : Cx} {pos : Pos}
end
structure It where
 go : Nat -> Hp -> Prop
 yld : Nat -> Hp -> V -> Hp -> Prop
 stop : Nat -> Hp -> Prop
def vU (X : Cx) (pins : OP) (H : Hp) (b : Addr) : Prop :=
 H b = none /\ b ≠ X.env.locals /\ b ∉ X.fs /\ (b ∈ X.ex \/ X.s₀.heap.objs.size <= b) /\ (∀ x c, X.env.cells.lookup x = some c -> c ≠ b) /\ ∀ p ∈ X.pn ++ pins, p.1 ≠ b
theorem Inv.fpOk {X : Cx} {pins : OP} {σ : St} {H H' : Hp} {s : Shared} {b : Addr} (I : Inv X pins σ H s) (hb : s.heap.objs.size <= b) (hn : H' b = none) : vU X pins H' b := by
 refine ⟨hn, ne_of_gt (lt_of_lt_of_le I.lt hb), I.nofs hb, .inr (le_trans I.sz hb), fun x c e z => ?_, fun p hp z => ?_⟩
 ·obtain ⟨v, q⟩ := I.cell x c e
  exact absurd (lt_of_lt_of_le q.lt (by rw [z]; exact hb)) (lt_irrefl _)
 ·exact absurd (lt_of_lt_of_le (Heap.lt_size (I.pin p hp).1) (by rw [z]; exact hb)) (lt_irrefl _)
structure Turn (P : Program) (w : World) (K : Frag) (tg : Expr) (J : It) (fp : List Addr) (it : Addr) (tn : Nat -> Heap -> Prop) : Prop where
 mem : it ∈ fp
 obj : ∀ i h, tn i h -> ∀ b ∈ fp, ∃ o, h.get? b = some o /\ ∀ v, o.data ≠ .cell v
 keep : ∀ i h h', tn i h -> (∀ b ∈ fp, ∀ o, h.get? b = some o -> h'.get? b = some o) -> tn i h'
 item : ∀ (X : Cx), X.prog = P -> X.w = w -> X.K = K -> X.calm = true -> ∀ (i : Nat) (pins : OP) (s : Shared) (σ : St) (H : Hp) (E : EV), Inv X pins σ H s -> (∀ b ∈ fp, vU X pins H b) -> tn i s.heap -> J.go i H ->
  wpAny (model P w) X.A (pyNext (.ref it)) (fun r s1 => ∃ u, r = some u /\
   wpAny (model P w) X.A (letOwnedTupleGo tg (.ref it) u) (fun _ s2 => ∃ x H', Inv X pins σ H' s2 /\ RelV x u /\ J.yld i H x H' /\ tn (i + 1) s2.heap /\ ∀ b ∈ fp, H' b = none) E s1) E s
 done : ∀ (X : Cx), X.prog = P -> X.w = w -> X.K = K -> X.calm = true -> ∀ (i : Nat) (pins : OP) (s : Shared) (σ : St) (H : Hp) (E : EV), Inv X pins σ H s -> (∀ b ∈ fp, vU X pins H b) -> tn i s.heap -> J.stop i H ->
  wpAny (model P w) X.A (pyNext (.ref it)) (fun r s1 => r = none /\ Inv X pins σ H s1) E s
 self : ∀ (A : Around) (i : Nat) (s : Shared) (Q : EV) (E : EV), tn i s.heap -> Q (.ref it) s -> wpAny (model P w) A (pyIter (.ref it)) Q E s
abbrev TI := St -> Hp -> (It -> Hp -> Prop) -> Prop
def PIE (X : Cx) (pins : OP) (σ : St) (tg : Expr) (R : It -> Hp -> Prop) (itv : Value) (s2 : Shared) : Prop :=
 ∃ (it : Addr) (fp : List Addr) (tn : Nat -> Heap -> Prop) (J : It) (H' : Hp), itv = .ref it /\ Inv X pins σ H' s2 /\ Turn X.prog X.w X.K tg J fp it tn /\ tn 0 s2.heap /\ (∀ b ∈ fp, vU X pins H' b) /\ R J H'
def PI (X : Cx) (tg iter : Expr) (wi : TI) : Prop :=
 ∀ (pins : OP) (s : Shared) (σ : St) (H : Hp) (R : It -> Hp -> Prop), Inv X pins σ H s -> wi σ H R ->
  wpAny (model X.prog X.w) X.A (eval iter X.env) (fun v s1 => wpAny (model X.prog X.w) X.A (pyIter v) (PIE X pins σ tg R) X.xe s1) X.xe s
theorem KZ {M : Model} {A : Around} {E : EV} {s : Shared} {tg : Expr} {it : Addr} {u : Value} {o : Obj} {n : String} {vs : Array Value} {Q : Unit -> Shared -> Prop} (ho : s.heap.get? it = some o) (hc : o.cls = .type n) (hd : o.data = .fields vs)
  (hn : ["enumerate", "zip", "dict_itemiterator", "dict_reverseitemiterator", "odict_iterator", "itertools.zip_longest", "itertools.pairwise"].contains n = false) (hQ : Q () s) : wpAny M A (letOwnedTupleGo tg (.ref it) u) Q E s := by
 unfold letOwnedTupleGo
 cases tg <;> first
  | exact wpAny_pure hQ
  | (cases u <;> first
    | exact wpAny_pure hQ
    | (refine wpAny_bind (wpAny_load ho ?_)
       rw [hc, hd]
       show wpAny M A (if (["enumerate", "zip", "dict_itemiterator", "dict_reverseitemiterator", "odict_iterator", "itertools.zip_longest", "itertools.pairwise"].contains n && vs[0]? == some (rawInt _)) = true then _ else _) Q E s
       rw [if_neg (by intro h; rw [hn, Bool.false_and] at h; cases h)]
       exact wpAny_pure hQ))
def Itl (K : Frag) (a : Addr) : It :=
 ⟨fun i H => ∃ xs x, SqL K H a xs /\ xs[i]? = some x, fun i H x H' => H' = H /\ ∀ xs, SqL K H a xs -> xs[i]? = some x, fun i H => ∃ xs, SqL K H a xs /\ xs.length <= i⟩
def Itr (lo : Int) (n : Nat) : It := ⟨fun i _ => i < n, fun i H x H' => H' = H /\ x = .int (lo + i), fun i _ => n <= i⟩
theorem Fy {P : Program} {w : World} {K : Frag} {tg : Expr} (a it : Addr) : Turn P w K tg (Itl K a) [it] it (fun i h => h.IsListIter it a i) where
 mem := by simp
 obj := fun i h st b hb => by
  have e : b = it := by simpa using hb
  subst e
  obtain ⟨o, e, c, d⟩ := st
  exact ⟨o, e, fun v z => by rw [d] at z; cases z⟩
 keep := fun i h h' st k => st.at fun o e => k it Z2 o e
 item := by
  intro X hP hw hK hc i pins s σ H E I hf st hg
  subst hP hw hK
  obtain ⟨xs, x, hq, hx⟩ := hg
  obtain ⟨its, rv, p, hz⟩ := I.list hq
  obtain ⟨u, hu, ru⟩ := rv.get hx
  obtain ⟨f0, f1, f2, f3, f4, f5⟩ := hf it Z2
  refine wpAny_pyNext_list_item st p.isList (x := u) (by simpa using hu) fun h' st' sb => ?_
  have I1 : Inv X pins σ H { s with heap := h' } := I.turned (t' := s.toks) (fun b o hb e => (sb.2 b hb).trans e) f0 f1 f3 f4 f5
  obtain ⟨o, e, c, d⟩ := id st'
  exact ⟨u, rfl, KZ (s := { s with heap := h' }) e c d Z0 ⟨x, H, I1, ru, ⟨rfl, fun ys hy => by rw [I.list_inj hy hq]; exact hx⟩, st', fun b hb => (hf b hb).1⟩⟩
 done := by
  intro X hP hw hK hc i pins s σ H E I hf st hg
  subst hP hw hK
  obtain ⟨xs, hq, hx⟩ := hg
  obtain ⟨its, rv, p, hz⟩ := I.list hq
  obtain ⟨f0, f1, f2, f3, f4, f5⟩ := hf it Z2
  have hl := rv.length
  exact wpAny_pyNext_list_end (I.ok.hd hc) st p.isList Z6 fun h' eb => ⟨rfl, I.turned (t' := s.toks) (fun b o hb e => eb b o hb e) f0 f1 f3 f4 f5⟩
 self := fun _ _ _ _ _ st h => wpAny_pyIter_listiter st h
theorem Cz {P : Program} {w : World} {K : Frag} {tg : Expr} (it : Addr) (lo : Int) (n : Nat) : Turn P w K tg (Itr lo n) [it] it (fun i h => IsRangeIter h it (lo + (i : Nat) * 1) ((n : Int) - (i : Nat)) 1) where
 mem := by simp
 obj := fun i h st b hb => by
  have e : b = it := by simpa using hb
  subst e
  exact ⟨_, st, fun v z => by
   have z' : Data.fields _ = Data.cell v := z
   cases z'⟩
 keep := fun i h h' st k => k it Z2 _ st
 item := by
  intro X hP hw hK hc i pins s σ H E I hf st hg
  subst hP hw hK
  obtain ⟨f0, f1, f2, f3, f4, f5⟩ := hf it Z2
  have W := Walks.range (prog := X.prog) (w := X.w) (I.ok.hd hc) it lo 1 n
  refine W.item i s _ _ hg st fun v h' tk hv st' kk => ?_
  obtain ⟨t, rfl⟩ := hv
  have I1 : Inv X pins σ H { s with heap := h', toks := tk } := I.turned (fun b o hb e => kk b o (by simpa using hb) e) f0 f1 f3 f4 f5
  refine ⟨_, rfl, KZ (s := { s with heap := h', toks := tk }) (n := "range_iterator") st' rfl rfl Z0 ⟨.int (lo + i), H, I1, ⟨t, ?_⟩, ⟨rfl, rfl⟩, st', fun b hb => (hf b hb).1⟩⟩
  rw [Int.mul_one]
 done := by
  intro X hP hw hK hc i pins s σ H E I hf st hg
  subst hP hw hK
  obtain ⟨f0, f1, f2, f3, f4, f5⟩ := hf it Z2
  exact wpAny_pyNext_range_end (I.ok.hd hc) st (by have : n <= i := hg; omega) fun h' eb => ⟨rfl, I.turned (t' := s.toks) (fun b o hb e => eb b o hb e) f0 f1 f3 f4 f5⟩
 self := fun _ _ _ _ _ st h => wpAny_pyIter_rangeiter st h
section
variable {X : Cx} {tg : Expr}
def KR (K : Frag) (tl : TE) : TI := fun σ H R => tl σ H fun x H1 => ∃ a, x = .ref a /\ (∃ xs, SqL K H1 a xs) /\ R (Itl K a) H1
theorem aZ {l : Expr} {tl : TE} (hl : PE X l tl) : PI X tg l (KR X.K tl) := by
 intro pins s σ H R I h
 refine thn (hl pins s σ H _ I h) fun v s1 ⟨x, H1, I1, r1, q1⟩ => ?_
 obtain ⟨a, e, ⟨xs, hq⟩, q⟩ := q1
 subst e
 cases r1
 obtain ⟨its, rv, p, hz⟩ := I1.list hq
 refine wpAny_pyIter_list p.isList ?_
 refine ⟨s1.heap.objs.size, [s1.heap.objs.size], _, _, H1, rfl, I1.kept (t' := s1.toks) fun b o e => Heap.get?_push_of_some _ e, Fy a _, ⟨_, Heap.get?_push_size _ rfl, rfl, rfl⟩, fun b hb => ?_, q⟩
 have e : b = s1.heap.objs.size := by simpa using hb
 subst e
 exact I1.fpOk (le_refl _) (I1.hok.fresh (le_refl _))
theorem zG {pins : OP} {σ : St} {H : Hp} {s : Shared} {R : It -> Hp -> Prop} {E : EV} {lo hi : Int} {t u v : Tok} {tk : Nat} (I : Inv X pins σ H s) (h1 : -(2 ^ 62) <= lo) (h2 : lo < 2 ^ 62) (h3 : -(2 ^ 62) <= hi) (h4 : hi < 2 ^ 62)
  (q : R (Itr lo (hi - lo).toNat) H) : wpAny (model X.prog X.w) X.A (pyIter (.ref s.heap.objs.size)) (PIE X pins σ tg R) E { s with heap := s.heap.push { cls := .type "range", data := .fields #[.int lo t, .int hi u, .int 1 v] }, toks := tk } := by
 refine wpAny_pyIter_range (IsRange.new ..) (small_one h1 h2 h3 h4) ?_
 have I1 : Inv X pins σ H { s with heap := s.heap.push { cls := .type "range", data := .fields #[.int lo t, .int hi u, .int 1 v] }, toks := tk } := I.kept fun b o e => Heap.get?_push_of_some _ e
 refine ⟨(s.heap.push { cls := .type "range", data := .fields #[.int lo t, .int hi u, .int 1 v] }).objs.size, [(s.heap.push { cls := .type "range", data := .fields #[.int lo t, .int hi u, .int 1 v] }).objs.size], _, _, H, rfl,
  I1.kept (t' := tk) fun b o e => Heap.get?_push_of_some _ e, Cz _ lo (hi - lo).toNat, ?_, fun b hb => ?_, q⟩
 ·have e1 : lo + ((0 : Nat) : Int) * 1 = lo := by simp
  have e2 : (((hi - lo).toNat : Nat) : Int) - ((0 : Nat) : Int) = Builtin.Range.rangeSize lo hi 1 := by rw [rangeSize_one]; split <;> omega
  show IsRangeIter _ _ (lo + ((0 : Nat) : Int) * 1) ((((hi - lo).toNat : Nat) : Int) - ((0 : Nat) : Int)) 1
  rw [e1, e2]
  exact Heap.get?_push_size _ rfl
 ·have e : b = (s.heap.push { cls := .type "range", data := .fields #[.int lo t, .int hi u, .int 1 v] }).objs.size := by simpa using hb
  subst e
  exact I1.fpOk (le_refl _) (I1.hok.fresh (le_refl _))
def Ph (ta : TA) : TI := fun σ H R => ta σ H fun vs H1 => ∃ j : Int, vs = [.int j] /\ -(2 ^ 62) <= j /\ j < 2 ^ 62 /\ R (Itr 0 j.toNat) H1
def Oz (ta : TA) : TI := fun σ H R => ta σ H fun vs H1 => ∃ i j : Int, vs = [.int i, .int j] /\ (-(2 ^ 62) <= i /\ i < 2 ^ 62 /\ -(2 ^ 62) <= j /\ j < 2 ^ 62) /\ R (Itr i (j - i).toNat) H1
theorem gF {a : Expr} {ta : TA} {p pos : Pos} (hg : Gl X "range") (hm : X.mg "range" = none) (ha : PA X [a] ta) (hs : starEach [a] X.env = [(false, eval a X.env)] := by rfl) : PI X tg (.Call (.Name "range" p) [a] [] pos) (Ph ta) := by
 intro pins s σ H R I h
 refine Call_ (u0 I hg hm boot_range (PyProof.Rows.callWith_type1 (thn (ha pos pins s σ H _ I h) fun us s1 ⟨vs, H1, I1, r1, q1⟩ => ?_) hs rfl))
 obtain ⟨j, e, q1, q2, q⟩ := q1
 subst e
 cases r1 with
 | cons r rr =>
  cases rr
  obtain ⟨t, rfl⟩ := r
  exact call_range_1 (zG I1 Z1 Z1 q1 q2 (by simpa using q))
theorem wR {a b : Expr} {ta : TA} {p pos : Pos} (hg : Gl X "range") (hm : X.mg "range" = none) (ha : PA X [a, b] ta) (hs : starEach [a, b] X.env = [(false, eval a X.env), (false, eval b X.env)] := by rfl) (hs2 : starEach [b] X.env = [(false, eval b X.env)] := by rfl) :
  PI X tg (.Call (.Name "range" p) [a, b] [] pos) (Oz ta) := by
 intro pins s σ H R I h
 refine Call_ (u0 I hg hm boot_range (PyProof.Rows.callWith_type1 (thn (ha pos pins s σ H _ I h) fun us s1 ⟨vs, H1, I1, r1, q1⟩ => ?_) (by rw [hs, hs2]) (by rw [hs2]; rfl)))
 obtain ⟨i, j, e, ⟨q1, q2, q3, q4⟩, q⟩ := q1
 subst e
 cases r1 with
 | cons r rr =>
  cases rr with
  | cons r' rr =>
   cases rr
   obtain ⟨t, rfl⟩ := r
   obtain ⟨t', rfl⟩ := r'
   exact call_range_2 (zG I1 q1 q2 q3 q4 q)
def OD (wi : TI) (g : TG) (tb : TS) : TS := fun D σ H => wi σ H fun J H1 => ∃ W : Nat -> Nat -> St -> Hp -> Prop, (∃ m, W 0 m σ H1) /\ ∀ i m σ H, W i m σ H ->
 (J.stop i H /\ D.nx σ H) \/ (J.go i H /\ ∃ N : St -> Hp -> Prop, (∀ σ' H', N σ' H' -> ∃ m', m' < m /\ W (i + 1) m' σ' H') /\ ∀ x H', J.yld i H x H' -> g x σ H' fun σ2 H2 => tb { D with nx := N, ct := N, bk := D.nx } σ2 H2)
def uE (fp : List Addr) (h : Heap) : OP := fp.filterMap fun b => (h.get? b).map fun o => (b, o)
theorem mR {fp : List Addr} {h : Heap} {b : Addr} {o : Obj} (hb : b ∈ fp) (e : h.get? b = some o) : (b, o) ∈ uE fp h := List.mem_filterMap.mpr ⟨b, hb, by rw [e]; rfl⟩
theorem Ew {fp : List Addr} {h : Heap} {p : Addr × Obj} (hp : p ∈ uE fp h) : p.1 ∈ fp /\ h.get? p.1 = some p.2 := by
 obtain ⟨b, hb, e⟩ := List.mem_filterMap.mp hp
 cases q : h.get? b with
 | none => rw [q] at e; cases e
 | some o =>
  rw [q] at e
  have e' : (b, o) = p := Option.some.inj e
  subst e'
  exact ⟨hb, q⟩
theorem Inv.pinned {pins : OP} {σ : St} {H : Hp} {s : Shared} {fp : List Addr} (I : Inv X pins σ H s) (hf : ∀ b ∈ fp, vU X pins H b) (ho : ∀ b ∈ fp, ∃ o, s.heap.get? b = some o /\ ∀ v, o.data ≠ .cell v) : Inv X (pins ++ uE fp s.heap) σ H s :=
 I.pins_of fun p hp => (mem_append.mp hp).elim (fun z => I.pin p (mem_append_right _ z)) fun z => by
  obtain ⟨hb, e⟩ := Ew z
  obtain ⟨f0, f1, f2, _⟩ := hf p.1 hb
  obtain ⟨o, e', d⟩ := ho p.1 hb
  rw [e] at e'; cases e'
  exact ⟨e, f0, f1, f2, d⟩
theorem Inv.unpinned {pins pl : OP} {σ : St} {H : Hp} {s : Shared} (I : Inv X (pins ++ pl) σ H s) : Inv X pins σ H s := I.pins_of fun p hp => I.pin p (mem_append_right _ (mem_append_left _ hp))
theorem Nr {iter : Expr} {body : List Stmt} {wi : TI} {g : TG} {tb : TS} {pos : Pos} (hp : PassesOwn (model X.prog X.w) X.A X.env X.xe) (hc : X.calm = true) (hi : PI X tg iter wi) (hg : PG X tg g) (hb : PSs X body tb)
  (hs : ∀ x, foldedSetIterable iter X.env x = pure x := by intro _; rfl) : PS X (.For tg iter body [] pos) (OD wi g tb) := by
 intro pins s σ H D I h
 refine wpAny_For (thn (hi pins s σ H _ I h) fun v s1 h1 => thn h1 fun itv s2 h2 => ?_) hs
 obtain ⟨it, fp, tn, J, H2, e, I2, T, st2, f2, W, ⟨m0, w0⟩, turn⟩ := h2
 subst e
 have stat : ∀ {H' : Hp}, (∀ b ∈ fp, H' b = none) -> ∀ b ∈ fp, vU X pins H' b := fun hn b hb => ⟨hn b hb, (f2 b hb).2⟩
 refine codeAny_forLoop_any (fun n s' => ∃ i σ' H', Inv X pins σ' H' s' /\ tn i s'.heap /\ (∀ b ∈ fp, H' b = none) /\ W i n σ' H') ?_ m0 ⟨0, σ, H2, I2, st2, fun b hb => (f2 b hb).1, w0⟩
 rintro n s3 ⟨i, σ3, H3, I3, st3, fr3, w3⟩
 rcases turn i n σ3 H3 w3 with ⟨stop, qn⟩ | ⟨go, N, hN, step⟩
 ·refine wpAny_passesOwn hp (thn (T.done X rfl rfl rfl hc i pins s3 σ3 H3 X.xe I3 (stat fr3) st3 stop) fun r s4 ⟨hr, I4⟩ => ?_)
  subst hr
  exact wpAny_execs_nil ⟨σ3, H3, I4, qn⟩
 ·refine wpAny_passesOwn hp (thn (T.item X rfl rfl rfl hc i pins s3 σ3 H3 X.xe I3 (stat fr3) st3 go) fun r s4 ⟨u, hr, h4⟩ => ?_)
  subst hr
  refine wpAny_passesOwn hp (thn h4 fun _ s5 ⟨x, H5, I5, r5, y5, st5, fr5⟩ => ?_)
  have I5' := I5.pinned (stat fr5) (T.obj _ _ st5)
  refine wpAny_passesOwn hp (thn (hg _ s5 σ3 H5 x u _ I5' r5 (step x H5 y5)) fun _ s6 ⟨σ6, H6, I6, q6⟩ => ?_)
  refine wpAny_passesOwn hp (thn (hb _ s6 σ6 H6 _ I6 q6) fun f s7 q7 => ?_)
  have again : ∀ {σ7 : St} {H7 : Hp}, Inv X (pins ++ uE fp s5.heap) σ7 H7 s7 -> N σ7 H7 -> ∃ m, m < n /\ ∃ i σ' H', Inv X pins σ' H' s7 /\ tn i s7.heap /\ (∀ b ∈ fp, H' b = none) /\ W i m σ' H' := fun {σ7 H7} I7 n7 => by
   obtain ⟨m', hm, w7⟩ := hN σ7 H7 n7
   refine ⟨m', hm, i + 1, σ7, H7, I7.unpinned, T.keep _ _ _ st5 fun b hb o e => (I7.pin (b, o) (mem_append_right _ (mem_append_right _ (mR hb e)))).1, fun b hb => ?_, w7⟩
   obtain ⟨o, e, d⟩ := T.obj _ _ st5 b hb
   exact (I7.pin (b, o) (mem_append_right _ (mem_append_right _ (mR hb e)))).2.1
  cases f with
  | next => obtain ⟨σ7, H7, I7, n7⟩ := q7; exact again I7 n7
  | cont => obtain ⟨σ7, H7, I7, n7⟩ := q7; exact again I7 n7
  | brk => obtain ⟨σ7, H7, I7, q7⟩ := q7; exact ⟨σ7, H7, I7.unpinned, q7⟩
  | ret v => obtain ⟨x7, σ7, H7, I7, r7, q7⟩ := q7; exact ⟨x7, σ7, H7, I7.unpinned, r7, q7⟩
end
theorem eQ {K : Frag} {a : Addr} {xs : List V} {g : TG} {tb : TS} {D : Ends} {σ : St} {H : Hp} (Pv : Nat -> St -> Hp -> Prop) (h0 : Pv 0 σ H) (hl : ∀ i σ H, i <= xs.length -> Pv i σ H -> SqL K H a xs)
  (hs : ∀ i x σ H, xs[i]? = some x -> Pv i σ H -> g x σ H fun σ2 H2 => tb { D with nx := Pv (i + 1), ct := Pv (i + 1), bk := D.nx } σ2 H2) (hd : ∀ σ H, Pv xs.length σ H -> D.nx σ H) :
  ∃ W : Nat -> Nat -> St -> Hp -> Prop, (∃ m, W 0 m σ H) /\ ∀ i m σ H, W i m σ H ->
   ((Itl K a).stop i H /\ D.nx σ H) \/ ((Itl K a).go i H /\ ∃ N : St -> Hp -> Prop, (∀ σ' H', N σ' H' -> ∃ m', m' < m /\ W (i + 1) m' σ' H') /\ ∀ x H', (Itl K a).yld i H x H' -> g x σ H' fun σ2 H2 => tb { D with nx := N, ct := N, bk := D.nx } σ2 H2) := by
 refine ⟨fun i m σ H => m = xs.length - i /\ i <= xs.length /\ Pv i σ H, ⟨xs.length, Z2, zero_le _, h0⟩, ?_⟩
 rintro i m σ H ⟨rfl, hi, p⟩
 have q := hl i σ H hi p
 by_cases hlt : i < xs.length
 ·refine .inr ⟨⟨xs, xs[i], q, by simp [hlt]⟩, Pv (i + 1), fun σ' H' p' => ⟨xs.length - (i + 1), Z1, rfl, hlt, p'⟩, fun x H' y => ?_⟩
  obtain ⟨e, y⟩ := y
  subst e
  exact hs i x σ _ (y xs q) p
 ·have e : i = xs.length := by omega
  subst e
  exact .inl ⟨⟨xs, q, le_refl _⟩, hd σ H p⟩
theorem oX {lo : Int} {n : Nat} {g : TG} {tb : TS} {D : Ends} {σ : St} {H : Hp} (Pv : Nat -> St -> Hp -> Prop) (h0 : Pv 0 σ H)
  (hs : ∀ i σ H, i < n -> Pv i σ H -> g (.int (lo + i)) σ H fun σ2 H2 => tb { D with nx := Pv (i + 1), ct := Pv (i + 1), bk := D.nx } σ2 H2) (hd : ∀ σ H, Pv n σ H -> D.nx σ H) :
  ∃ W : Nat -> Nat -> St -> Hp -> Prop, (∃ m, W 0 m σ H) /\ ∀ i m σ H, W i m σ H ->
   ((Itr lo n).stop i H /\ D.nx σ H) \/ ((Itr lo n).go i H /\ ∃ N : St -> Hp -> Prop, (∀ σ' H', N σ' H' -> ∃ m', m' < m /\ W (i + 1) m' σ' H') /\ ∀ x H', (Itr lo n).yld i H x H' -> g x σ H' fun σ2 H2 => tb { D with nx := N, ct := N, bk := D.nx } σ2 H2) := by
 refine ⟨fun i m σ H => m = n - i /\ i <= n /\ Pv i σ H, ⟨n, Z2, zero_le _, h0⟩, ?_⟩
 rintro i m σ H ⟨rfl, hi, p⟩
 by_cases hlt : i < n
 ·refine .inr ⟨hlt, Pv (i + 1), fun σ' H' p' => ⟨n - (i + 1), Z1, rfl, hlt, p'⟩, fun x H' y => ?_⟩
  obtain ⟨e, y⟩ := y
  subst e y
  exact hs i σ _ hlt p
 ·have e : i = n := by omega
  subst e
  exact .inl ⟨le_refl _, hd σ H p⟩
abbrev R2 := V -> V -> Hp -> VK -> Prop
def OpR (X : Cx) (f : Value -> Value -> Sem Value) (r : R2) : Prop :=
 ∀ (pins : OP) (s : Shared) (σ : St) (H : Hp) (x y : V) (v u : Value) (Q : VK), Inv X pins σ H s -> RelV x v -> RelV y u -> r x y H Q ->
  wpAny (model X.prog X.w) X.A (f v u) (EP X pins σ Q) X.xe s
def UnR (X : Cx) (f : Value -> Sem Value) (r : V -> Hp -> VK -> Prop) : Prop :=
 ∀ (pins : OP) (s : Shared) (σ : St) (H : Hp) (x : V) (v : Value) (Q : VK), Inv X pins σ H s -> RelV x v -> r x H Q ->
  wpAny (model X.prog X.w) X.A (f v) (EP X pins σ Q) X.xe s
def jg (X : Cx) (f : Value) (r : List V -> Hp -> VK -> Prop) : Prop :=
 ∀ (pins : OP) (s : Shared) (σ : St) (H : Hp) (xs : List V) (us : List Value) (Q : VK), Inv X pins σ H s -> Vals xs us -> r xs H Q ->
  wpAny (model X.prog X.w) X.A (call f us) (EP X pins σ Q) X.xe s
def tOp (r : R2) (ta tb : TE) : TE := fun σ H Q => ta σ H fun x H1 => tb σ H1 fun y H2 => r x y H2 Q
def tUn (r : V -> Hp -> VK -> Prop) (ta : TE) : TE := fun σ H Q => ta σ H fun x H1 => r x H1 Q
def rI (C : Int -> Int -> Prop) (g : Int -> Int -> V) : R2 := fun x y H Q => ∃ i j, x = .int i /\ y = .int j /\ C i j /\ Q (g i j) H
def rI0 (g : Int -> Int -> V) : R2 := fun x y H Q => ∃ i j, x = .int i /\ y = .int j /\ Q (g i j) H
def rU (g : Int -> V) : V -> Hp -> VK -> Prop := fun x H Q => ∃ i, x = .int i /\ Q (g i) H
section
variable {X : Cx} {a b c : Expr} {ta tb tc : TE} {pos : Pos}
theorem Mj (ha : PE X a ta) (hb : PE X b tb) {pins : OP} {s : Shared} {σ : St} {H : Hp} {R : V -> V -> Hp -> Prop} (I : Inv X pins σ H s)
  (h : ta σ H fun x H1 => tb σ H1 fun y H2 => R x y H2) {Q : EV} {f : Value -> Value -> Sem Value}
  (hf : ∀ v u s2 x y H2, Inv X pins σ H2 s2 -> RelV x v -> RelV y u -> R x y H2 -> wpAny (model X.prog X.w) X.A (f v u) Q X.xe s2) :
  wpAny (model X.prog X.w) X.A (eval a X.env) (fun v s₁ => wpAny (model X.prog X.w) X.A (eval b X.env) (fun u s₂ => wpAny (model X.prog X.w) X.A (f v u) Q X.xe s₂) X.xe s₁) X.xe s := by
 refine thn (ha pins s σ H _ I h) fun v s1 ⟨x, H1, I1, r1, q1⟩ => ?_
 refine thn (hb pins s1 σ H1 _ I1 q1) fun u s2 ⟨y, H2, I2, r2, q2⟩ => ?_
 exact hf v u s2 x y H2 I2 r1 r2 q2
theorem aN {op : Operator} {r : R2} (ho : OpR X (binaryOp op) r) (ha : PE X a ta) (hb : PE X b tb) : PE X (.BinOp a op b pos) (tOp r ta tb) := by
 intro pins s σ H Q I h
 exact wpAny_BinOp (Mj ha hb I h fun v u s2 x y H2 I2 rx ry q => ho pins s2 σ H2 x y v u Q I2 rx ry q)
theorem wU {op : UnaryOp} {r : V -> Hp -> VK -> Prop} (ho : UnR X (unaryOp op) r) (ha : PE X a ta) : PE X (.UnaryOp op a pos) (tUn r ta) := by
 intro pins s σ H Q I h
 exact UnaryOp_ (thn (ha pins s σ H _ I h) fun v s1 ⟨x, H1, I1, r1, q1⟩ => ho pins s1 σ H1 x v Q I1 r1 q1)
theorem opI {f : Value -> Value -> Sem Value} {C : Int -> Int -> Prop} {g : Int -> Int -> Int}
  (rule : ∀ (i j : Int) (t u : Tok) (s : Shared) (Q : EV) (E : EV), C i j -> Q (.int (g i j) s.toks) { s with toks := s.toks + 1 } -> wpAny (model X.prog X.w) X.A (f (.int i t) (.int j u)) Q E s) :
  OpR X f (rI C fun i j => .int (g i j)) := by
 intro pins s σ H x y v u Q I rx ry h
 obtain ⟨i, j, rfl, rfl, hc, q⟩ := h
 obtain ⟨t, rfl⟩ := rx
 obtain ⟨t', rfl⟩ := ry
 exact rule i j t t' s _ _ hc ⟨.int (g i j), H, I.tok _, ⟨_, rfl⟩, q⟩
theorem JW {f : Value -> Value -> Sem Value} {g : Int -> Int -> Int}
  (rule : ∀ (i j : Int) (t u : Tok) (s : Shared) (Q : EV) (E : EV), Q (.int (g i j) s.toks) { s with toks := s.toks + 1 } -> wpAny (model X.prog X.w) X.A (f (.int i t) (.int j u)) Q E s) :
  OpR X f (rI0 fun i j => .int (g i j)) := by
 intro pins s σ H x y v u Q I rx ry h
 obtain ⟨i, j, rfl, rfl, q⟩ := h
 obtain ⟨t, rfl⟩ := rx
 obtain ⟨t', rfl⟩ := ry
 exact rule i j t t' s _ _ ⟨.int (g i j), H, I.tok _, ⟨_, rfl⟩, q⟩
theorem NB {f : Value -> Value -> Sem Value} {g : Int -> Int -> Bool}
  (rule : ∀ (i j : Int) (t u : Tok) (s : Shared) (Q : EV) (E : EV), Q (.bool (g i j)) s -> wpAny (model X.prog X.w) X.A (f (.int i t) (.int j u)) Q E s) :
  OpR X f (rI0 fun i j => .bl (g i j)) := by
 intro pins s σ H x y v u Q I rx ry h
 obtain ⟨i, j, rfl, rfl, q⟩ := h
 obtain ⟨t, rfl⟩ := rx
 obtain ⟨t', rfl⟩ := ry
 exact rule i j t t' s _ _ ⟨.bl (g i j), H, I, rfl, q⟩
def N5 (i j : Int) : Prop := 0 < j /\ j < 1073741824
def Q6 (i j : Int) : Prop := 0 <= j /\ j <= 1000000 /\ i.natAbs < 2 ^ 64
def IV (i j : Int) : Prop := (-(2 ^ 64) < i /\ i < 2 ^ 64) \/ (-(2 ^ 64) < j /\ j < 2 ^ 64)
theorem IV.ok {i j : Int} (h : IV i j) : IntMulOk i j := by
 rcases h with ⟨h1, h2⟩ | ⟨h1, h2⟩
 ·exact .of_left (intBits_le_64 h1 h2)
 ·exact .of_right (intBits_le_64 h1 h2)
theorem Bv (k : Nat) : (0 : Int) <= 2 ^ k := by
 rw [two_pow_cast]
 exact Int.natCast_nonneg _
theorem cN : OpR X (binaryOp .Add) (rI0 fun i j => .int (i + j)) := JW fun _ _ _ _ _ _ _ q => add_int q
theorem Nk : OpR X (binaryOp .Sub) (rI0 fun i j => .int (i - j)) := JW fun _ _ _ _ _ _ _ q => sub_int q
theorem jn : OpR X (binaryOp .Mult) (rI IV fun i j => .int (i * j)) := opI fun _ _ _ _ _ _ _ hc q => mul_int q hc.ok
theorem my : OpR X (binaryOp .FloorDiv) (rI N5 fun i j => .int (i / j)) := opI fun i j _ _ _ _ _ hc q => by
 have h1 : (0 : Int) < j := hc.1
 have h2 : j < 1073741824 := hc.2
 exact floordiv_int Z1 (by rw [Int.fdiv_eq_ediv_of_nonneg i Z1]; exact q) (.inl (PyProof.noPylong_small Z1))
theorem ji : OpR X (binaryOp .Mod) (rI (fun _ j => 0 < j) fun i j => .int (i % j)) := opI fun i j _ _ _ _ _ hc q => by
 have h1 : (0 : Int) < j := hc
 exact mod_int' Z1 (by rw [Int.fmod_eq_emod_of_nonneg i Z1]; exact q)
theorem MP : OpR X (binaryOp .LShift) (rI Q6 fun i j => .int (i * 2 ^ j.toNat)) := opI fun _ _ _ _ _ _ _ hc q => lshift_int_small hc.1 hc.2.1 hc.2.2 q
theorem yu : OpR X (binaryOp .RShift) (rI (fun _ j => 0 <= j) fun i j => .int (i / 2 ^ j.toNat)) := opI fun i j _ _ _ _ _ hc q =>
 rshift_int hc (by rw [Int.fdiv_eq_ediv_of_nonneg i (Bv _)]; exact q)
theorem Ge : OpR X (binaryOp .BitAnd) (rI0 fun i j => .int (Builtin.bitAnd i j)) := JW fun _ _ _ _ _ _ _ q => and_int q
theorem PN : OpR X (binaryOp .BitOr) (rI0 fun i j => .int (Builtin.bitOr i j)) := JW fun _ _ _ _ _ _ _ q => or_int q
theorem unI {f : Value -> Sem Value} {g : Int -> Int}
  (rule : ∀ (i : Int) (t : Tok) (s : Shared) (Q : EV) (E : EV), Q (.int (g i) s.toks) { s with toks := s.toks + 1 } -> wpAny (model X.prog X.w) X.A (f (.int i t)) Q E s) :
  UnR X f (rU fun i => .int (g i)) := by
 intro pins s σ H x v Q I rx h
 obtain ⟨i, rfl, q⟩ := h
 obtain ⟨t, rfl⟩ := rx
 exact rule i t s _ _ ⟨.int (g i), H, I.tok _, ⟨_, rfl⟩, q⟩
theorem rm : UnR X (unaryOp .USub) (rU fun i => .int (-i)) := unI fun _ _ _ _ _ q => neg_int q
end
def Ow : V -> V -> Bool
 | .non, .non => true | .non, .int _ => true | .int _, .non => true | .non, .bl _ => true | .bl _, .non => true | .non, .str _ => true | .str _, .non => true
 | .int _, .int _ => true | .bl _, .bl _ => true | .str _, .str _ => true | .byt _, .byt _ => true
 | .int _, .str _ => true | .str _, .int _ => true | .bl _, .str _ => true | .str _, .bl _ => true
 | _, _ => false
def rEq : R2 := fun x y H Q => Ow x y = true /\ Q (.bl (decide (x = y))) H
def rNe : R2 := fun x y H Q => Ow x y = true /\ Q (.bl (!decide (x = y))) H
theorem DY {i j : Int} : decide (V.int i = V.int j) = (i == j) := by
 rw [Bool.eq_iff_iff]
 simp
theorem Gr {i j : Bool} : decide (V.bl i = V.bl j) = (i == j) := by
 rw [Bool.eq_iff_iff]
 simp
theorem Do {i j : Str} : decide (V.str i = V.str j) = (i == j) := by
 rw [Bool.eq_iff_iff]
 simp
theorem Di {i j : Array UInt8} : decide (V.byt i = V.byt j) = (i.toList == j.toList) := by
 rw [Bool.eq_iff_iff]
 cases i
 cases j
 simp
section
variable {X : Cx} {a b c : Expr} {ta tb tc : TE} {pos : Pos}
theorem bJ {pins : OP} {σ : St} {H : Hp} {s : Shared} {Q : VK} {k k' : Bool} (I : Inv X pins σ H s) (q : Q (.bl k) H) (e : k = k') : EP X pins σ Q (.bool k') s := by
 subst e
 exact ⟨.bl k, H, I, rfl, q⟩
theorem cJ : OpR X (compareOp .Eq) rEq := by
 intro pins s σ H x y v u Q I rx ry h
 obtain ⟨hs, q⟩ := h
 cases x with
 | non =>
  cases rx
  cases y with
  | non => cases ry; exact PySem.EqNone.eq_none_none (bJ I q Z2)
  | bl j => cases ry; exact PySem.EqNone.eq_none_bool (bJ I q Z2)
  | int j => obtain ⟨t', rfl⟩ := ry; exact PySem.EqNone.eq_none_int (bJ I q Z2)
  | str j => obtain ⟨t', rfl⟩ := ry; exact PySem.EqNone.eq_none_str (bJ I q Z2)
  | _ => exact absurd (show false = true from hs) Bool.false_ne_true
 | bl i =>
  cases rx
  cases y with
  | non => cases ry; exact PySem.EqNone.eq_bool_none (bJ I q Z2)
  | bl j => cases ry; exact eq_bool (bJ I q Gr)
  | str j => obtain ⟨t', rfl⟩ := ry; exact PySem.EqMixed.eq_bool_str (bJ I q Z2)
  | _ => exact absurd (show false = true from hs) Bool.false_ne_true
 | int i =>
  obtain ⟨t, rfl⟩ := rx
  cases y with
  | non => cases ry; exact PySem.EqNone.eq_int_none (bJ I q Z2)
  | int j => obtain ⟨t', rfl⟩ := ry; exact eq_int (bJ I q DY)
  | str j => obtain ⟨t', rfl⟩ := ry; exact PySem.EqMixed.eq_int_str (bJ I q Z2)
  | _ => exact absurd (show false = true from hs) Bool.false_ne_true
 | str i =>
  obtain ⟨t, rfl⟩ := rx
  cases y with
  | non => cases ry; exact PySem.EqNone.eq_str_none (bJ I q Z2)
  | bl j => cases ry; exact PySem.EqMixed.eq_str_bool (bJ I q Z2)
  | int j => obtain ⟨t', rfl⟩ := ry; exact PySem.EqMixed.eq_str_int (bJ I q Z2)
  | str j => obtain ⟨t', rfl⟩ := ry; exact eq_str (bJ I q Do)
  | _ => exact absurd (show false = true from hs) Bool.false_ne_true
 | byt i =>
  obtain ⟨t, rfl⟩ := rx
  cases y with
  | byt j => obtain ⟨t', rfl⟩ := ry; exact PySem.W.eq_bytes (bJ I q Di)
  | _ => exact absurd (show false = true from hs) Bool.false_ne_true
 | _ => cases y <;> exact absurd (show false = true from hs) Bool.false_ne_true
theorem oE : OpR X (compareOp .NotEq) rNe := by
 intro pins s σ H x y v u Q I rx ry h
 obtain ⟨hs, q⟩ := h
 cases x with
 | non =>
  cases rx
  cases y with
  | non => cases ry; exact PySem.EqNone.ne_none_none (bJ I q Z2)
  | bl j => cases ry; exact PySem.EqNone.ne_none_bool (bJ I q Z2)
  | int j => obtain ⟨t', rfl⟩ := ry; exact PySem.EqNone.ne_none_int (bJ I q Z2)
  | str j => obtain ⟨t', rfl⟩ := ry; exact PySem.EqNone.ne_none_str (bJ I q Z2)
  | _ => exact absurd (show false = true from hs) Bool.false_ne_true
 | bl i =>
  cases rx
  cases y with
  | non => cases ry; exact PySem.EqNone.ne_bool_none (bJ I q Z2)
  | bl j => cases ry; exact ne_bool (bJ I q (congrArg not Gr))
  | str j => obtain ⟨t', rfl⟩ := ry; exact PySem.EqMixed.ne_bool_str (bJ I q Z2)
  | _ => exact absurd (show false = true from hs) Bool.false_ne_true
 | int i =>
  obtain ⟨t, rfl⟩ := rx
  cases y with
  | non => cases ry; exact PySem.EqNone.ne_int_none (bJ I q Z2)
  | int j => obtain ⟨t', rfl⟩ := ry; exact ne_int (bJ I q (congrArg not DY))
  | str j => obtain ⟨t', rfl⟩ := ry; exact PySem.EqMixed.ne_int_str (bJ I q Z2)
  | _ => exact absurd (show false = true from hs) Bool.false_ne_true
 | str i =>
  obtain ⟨t, rfl⟩ := rx
  cases y with
  | non => cases ry; exact PySem.EqNone.ne_str_none (bJ I q Z2)
  | bl j => cases ry; exact PySem.EqMixed.ne_str_bool (bJ I q Z2)
  | int j => obtain ⟨t', rfl⟩ := ry; exact PySem.EqMixed.ne_str_int (bJ I q Z2)
  | str j => obtain ⟨t', rfl⟩ := ry; exact ne_str (bJ I q (congrArg not Do))
  | _ => exact absurd (show false = true from hs) Bool.false_ne_true
 | byt i =>
  obtain ⟨t, rfl⟩ := rx
  cases y with
  | byt j => obtain ⟨t', rfl⟩ := ry; exact PySem.W.ne_bytes (bJ I q (congrArg not Di))
  | _ => exact absurd (show false = true from hs) Bool.false_ne_true
 | _ => cases y <;> exact absurd (show false = true from hs) Bool.false_ne_true
theorem CV : OpR X (compareOp .Lt) (rI0 fun i j => .bl (decide (i < j))) := NB fun _ _ _ _ _ _ _ q => lt_int q
theorem rZ : OpR X (compareOp .Gt) (rI0 fun i j => .bl (decide (j < i))) := NB fun _ _ _ _ _ _ _ q => gt_int q
theorem Ov : OpR X (compareOp .GtE) (rI0 fun i j => .bl (decide (j <= i))) := NB fun _ _ _ _ _ _ _ q => ge_int q
theorem wX : OpR X (compareOp .In) (fun x y H Q => ∃ i j, x = .str i /\ y = .str j /\ Q (.bl (!(Builtin.Str.occurrences j i 0 j.length 1).isEmpty)) H) := by
 intro pins s σ H x y v u Q I rx ry h
 obtain ⟨i, j, rfl, rfl, q⟩ := h
 obtain ⟨t, rfl⟩ := rx
 obtain ⟨t', rfl⟩ := ry
 exact in_str (bJ I q rfl)
theorem t7 : OpR X (compareOp .IsNot) (fun x y H Q => y = .non /\ Q (.bl (!decide (x = .non))) H) := by
 intro pins s σ H x y v u Q I rx ry h
 obtain ⟨rfl, q⟩ := h
 cases ry
 refine isnot_none_gen (bJ I q ?_)
 cases x <;> first
  | (cases rx; rfl)
  | (obtain ⟨t, rfl⟩ := rx; rfl)
theorem aQ (b : Expr) {op : CmpOp} (h : op ≠ .In := by decide) (h2 : op ≠ .NotIn := by decide) : behindInMarks op b = false := by
 have e1 : (op == CmpOp.In) = false := by cases op <;> first | rfl | exact absurd rfl h
 have e2 : (op == CmpOp.NotIn) = false := by cases op <;> first | rfl | exact absurd rfl h2
 cases b <;> simp [behindInMarks, e1, e2]
theorem o9 {op : CmpOp} {r : R2} (ho : OpR X (compareOp op) r) (ha : PE X a ta) (hb : PE X b tb) (hm : behindInMarks op b = false) : PE X (.Compare a [op] [b] pos) (tOp r ta tb) := by
 intro pins s σ H Q I h
 exact wpAny_Compare1 (Mj ha hb I h fun v u s2 x y H2 I2 rx ry q => ho pins s2 σ H2 x y v u Q I2 rx ry q) hm
def QC (t : TE) : TT := fun σ H Q => t σ H fun x H' => ∃ k, x = .bl k /\ Q k H'
theorem aH {op : CmpOp} {r : R2} (ho : OpR X (compareOp op) r) (ha : PE X a ta) (hb : PE X b tb) (hm : behindInMarks op b = false) : PT X (.Compare a [op] [b] pos) (QC (tOp r ta tb)) := by
 intro pins s σ H Q I h
 refine wpAny_isTrue_Compare1 (thn (ha pins s σ H _ I h) fun v s1 ⟨x, H1, I1, r1, q1⟩ => thn (hb pins s1 σ H1 _ I1 q1) fun u s2 ⟨y, H2, I2, r2, q2⟩ =>
  thn (ho pins s2 σ H2 x y v u _ I2 r1 r2 q2) fun c s3 ⟨z, H3, I3, r3, k, e, q3⟩ => ?_) hm
 subst e
 cases r3
 exact wpAny_truthy_bool ⟨H3, I3, q3⟩
theorem yO : (sizeLine : Nat) < 2 ^ 63 := by rw [sizeLine_eq]; decide
theorem aM : OpR X (binaryOp .Add) (fun x y H Q => ∃ i j, x = .str i /\ y = .str j /\ i.length + j.length <= sizeLine /\ Q (.str (i ++ j)) H) := by
 intro pins s σ H x y v u Q I rx ry h
 obtain ⟨i, j, rfl, rfl, hz, q⟩ := h
 obtain ⟨t, rfl⟩ := rx
 obtain ⟨t', rfl⟩ := ry
 exact add_str (fun t' tk => ⟨.str (i ++ j), H, I.tok _, ⟨_, rfl⟩, q⟩) hz
theorem vals1 {x : V} {us : List Value} (r : Vals [x] us) : ∃ u, us = [u] /\ RelV x u := by
 cases r with
 | cons r1 r2 => cases r2; exact ⟨_, rfl, r1⟩
theorem vals2 {x y : V} {us : List Value} (r : Vals [x, y] us) : ∃ u w', us = [u, w'] /\ RelV x u /\ RelV y w' := by
 cases r with
 | cons r1 r2 =>
  cases r2 with
  | cons r3 r4 => cases r4; exact ⟨_, _, rfl, r1, r3⟩
theorem Em (hc : X.calm = true) : jg X (.builtin "min") (fun xs H Q => ∃ i j, xs = [.int i, .int j] /\ Q (.int (if j < i then j else i)) H) := by
 intro pins s σ H xs us Q I r h
 obtain ⟨i, j, rfl, q⟩ := h
 obtain ⟨u, w', rfl, ⟨t, rfl⟩, ⟨t', rfl⟩⟩ := vals2 r
 refine min_two_ints (I.ok.hd hc) fun h' tk k => ⟨_, H, I.kept k, ?_, q⟩
 by_cases hj : j < i
 ·rw [if_pos hj, if_pos hj]; exact ⟨_, rfl⟩
 ·rw [if_neg hj, if_neg hj]; exact ⟨_, rfl⟩
theorem Ft : jg X (.type "int") (fun xs H Q => (∃ i, xs = [.int i] /\ Q (.int i) H) \/ ∃ k, xs = [.bl k] /\ Q (.int (if k then 1 else 0)) H) := by
 intro pins s σ H xs us Q I r h
 rcases h with ⟨i, rfl, q⟩ | ⟨k, rfl, q⟩
 ·obtain ⟨u, rfl, t, rfl⟩ := vals1 r
  exact call_int_int ⟨.int i, H, I, ⟨_, rfl⟩, q⟩
 ·obtain ⟨u, rfl, r1⟩ := vals1 r
  cases r1
  exact call_int_bool ⟨.int (if k then 1 else 0), H, I.tok _, ⟨_, rfl⟩, q⟩
theorem yV : jg X (.type "str") (fun xs H Q => ∃ i, xs = [.int i] /\ i.natAbs.log2 < 1920 /\ Q (.str (toString i)) H) := by
 intro pins s σ H xs us Q I r h
 obtain ⟨i, rfl, hz, q⟩ := h
 obtain ⟨u, rfl, t, rfl⟩ := vals1 r
 exact PySem.P.str_of_int hz ⟨.str _, H, I.tok _, ⟨_, rfl⟩, q⟩
end
structure Bx (h : Heap) (x dx C : Addr) (mA : MG) : Prop where
 obj : h.get? x = some (instObj C dx)
 ns : h.Ns1 dx mA
 ne : dx ≠ x
theorem rN {h : Heap} {dx : Addr} {mA : MG} (n : h.Ns1 dx mA) : ∃ od, h.get? dx = some od /\ ∀ name, lookIn name od = some (mA name) := by
 obtain ⟨o, es, ep, ho, hd, hk, _, hm⟩ := n
 refine ⟨o, ho, fun name => ?_⟩
 have e := hm name
 unfold nsFind findBy at e
 rw [<- Array.find?_toList] at e
 unfold lookIn
 rw [hd]
 dsimp only
 split
 ·rename_i y q
  rw [q] at e
  exact congrArg some e
 ·rename_i q
  rw [q] at e
  have a : es.toList.any (·.refKey) = false := by
   rw [List.any_eq_false]
   intro y hy
   obtain ⟨z, t, hkey⟩ := hk y (Array.mem_toList_iff.mp hy)
   simp [DictEntry.refKey, hkey]
  have a' : ¬ es.toList.any (·.refKey) = true := by rw [a]; exact Bool.false_ne_true
  rw [if_neg a']
  exact congrArg some e
theorem Bx.look {h : Heap} {x dx C : Addr} {mA : MG} (I : Bx h x dx C mA) : ∃ od, PySem.W.InstAt h x (instObj C dx) C (some od) /\ ∀ name, lookIn name od = some (mA name) :=
 let ⟨od, ho, hl⟩ := rN I.ns
 ⟨od, ⟨I.obj, rfl, rfl, ho⟩, hl⟩
section
variable {prog : Program} {w : World} {A : Around} {E : EV} {s : Shared} {K : Frag} {x dx C f : Addr} {mA : MG} {name : Str} {v : Value}
theorem Jw {expr : Bool} {Q : EV} (X : K.In s.heap) (I : Bx s.heap x dx C mA) (hg : plainGet K C name = true) (hh : hasDictIn K C = true)
  (ha : findIn K (.ref C) name = some none) (hv : mA name = some v) (hv' : handedIn v = true) (h : Q v { s with toks := s.toks + 1 }) :
  wpAny (model prog w) A (getAttr (.ref x) name expr) Q E s := by
 obtain ⟨od, J, hl⟩ := I.look
 exact PySem.W.get_value X J (plainGet_of hg).1 (PySem.W.findObj_own hh ha rfl (by rw [hl, hv])) hv' h
theorem Ie {pl : Sem Bool} {Q : Value × List Value -> Shared -> Prop} (X : K.In s.heap) (I : Bx s.heap x dx C mA) (hg : plainGet K C name = true)
  (hf : findIn K (.ref C) name = some (some (.ref f))) (ht : isFn K (.ref f) = true) (hv : mA name = none) (h : Q (.ref f, [.ref x]) s) :
  wpAny (model prog w) A (getMethod (.ref x) name pl) Q E s := by
 obtain ⟨od, J, hl⟩ := I.look
 exact PySem.W.method_fn X J (plainGet_of hg).1 (plainGet_of hg).2 hf (beq_iff_eq.mp ht) (by show (lookIn name od).map (·.isSome) = some false; rw [hl, hv]; rfl) h
theorem JD {ns : List Str} {Q : Unit -> Shared -> Prop} (X : K.In s.heap) (I : Bx s.heap x dx C mA)
  (hs : findIn K (.ref C) "__setattr__" = some (some (.builtin "object.__setattr__"))) (hp : plainOver K C = true) (ht : takerIn K C name = some none) (hh : hasDictIn K C = true)
  (hw : PySem.Within mA ns) (hsz : ns.length <= sizeLine)
  (h : ∀ h', Bx h' x dx C (fun y => if y = name then some v else mA y) -> Heap.SameBut dx s.heap h' -> Q () { s with heap := h', toks := s.toks + 2 }) :
  wpAny (model prog w) A (setAttr (.ref x) name v) Q E s := by
 obtain ⟨od, J, hl⟩ := I.look
 refine PySem.W.set_plain X J hs (PySem.W.osa_open (s := { s with toks := s.toks + 1 }) (r := none) X J hp ht fun b => ?_)
 obtain ⟨cd, hc, hd'⟩ := PySem.W.any_some hh
 have hx : s.heap.get? x = some ⟨.ref C, some dx, .plain, #[]⟩ := I.obj
 refine wpAny_bind (wpAny_pure (wpAny_bind (wpAny_bind (wpAny_loadPart hx (wpAny_bind (PySem.W.Looks.here (s := { s with toks := s.toks + 1 }) (PySem.W.looks_clsIn X hc) ?_))))))
 rw [hd']
 refine wpAny_pure (a := some dx) (wpAny_bind (wpAny_pure (wpAny_bind ?_)))
 refine wpAny_nsSet1 (s := { s with toks := s.toks + 1 }) I.ns fun h' hn2 hs2 => ?_
 obtain ⟨oD, esD, epD, hoD, hdD, hcD⟩ := hn2.count (PySem.Within.cons name v hw)
 refine wpAny_bind (wpAny_lookBehind hoD (by rw [hdD]; exact pastItsLine_dict (le_trans hcD (by rw [length_cons]; omega))) ?_)
 exact wpAny_pure (h _ ⟨(hs2.2 _ (Ne.symm I.ne)).trans I.obj, hn2, I.ne⟩ hs2)
theorem Ax {R : Result -> Shared -> Prop} {vs : List Value} {kw : List (Str × Value)} (X : K.In s.heap) (hm : makesIn K C = true)
  (hi : findIn K (.ref C) "__init__" = some (some (.ref f))) (hf : typeIn K (.ref f) = some (.type "function"))
  (h : codeAny (model prog w) (A.under (.builtin "type.__call__" ⟨.ref C :: vs, kw⟩)) (.call (.ref f) ⟨.ref (s.heap.objs.size + 1) :: vs, kw⟩) (PySem.W.InitBack (s.heap.objs.size + 1) R)
   { s with heap := (s.heap.push emptyDict).push (instObj C s.heap.objs.size) }) :
  codeAny (model prog w) A (.call (.ref C) ⟨vs, kw⟩) R s := by
 obtain ⟨hh, g, d, t, os⟩ := s
 exact PySem.W.make_core (PySem.W.makes_of X hm) (PySem.W.looks_findIn X hi) (fun self => PySem.W.bind_fn X self hf) (.inl rfl) h
end
def lO (f : Str) (v : V) : List (Str × V) -> List (Str × V)
 | [] => [(f, v)]
 | (g, x) :: r => if g = f then (g, v) :: r else (g, x) :: lO f v r
theorem jx (f g : Str) (v : V) : ∀ fs : List (Str × V), (lO f v fs).lookup g = if g = f then some v else fs.lookup g
 | [] => by
  show List.lookup g [(f, v)] = _
  by_cases h : g = f
  ·have hb : (g == f) = true := beq_iff_eq.mpr h
   simp only [List.lookup, hb, if_pos h]
  ·have hb : (g == f) = false := beq_eq_false_iff_ne.mpr h
   simp only [List.lookup, hb, if_neg h]
 | (k, x) :: r => by
  have ih := jx f g v r
  rw [show lO f v ((k, x) :: r) = (if k = f then (k, v) :: r else (k, x) :: lO f v r) from rfl]
  by_cases hk : k = f
  ·rw [if_pos hk]
   by_cases h : g = k
   ·have hb : (g == k) = true := beq_iff_eq.mpr h
    simp only [List.lookup, hb, if_pos (h.trans hk)]
   ·have hb : (g == k) = false := beq_eq_false_iff_ne.mpr h
    simp only [List.lookup, hb, if_neg (fun e : g = f => h (e.trans hk.symm))]
  ·rw [if_neg hk]
   by_cases h : g = k
   ·have hb : (g == k) = true := beq_iff_eq.mpr h
    simp only [List.lookup, hb, if_neg (fun e : g = f => hk (h.symm.trans e))]
   ·have hb : (g == k) = false := beq_eq_false_iff_ne.mpr h
    simp only [List.lookup, hb]
    exact ih
theorem qZ (f : Str) (v : V) : ∀ fs : List (Str × V), f ∈ (lO f v fs).map (·.1) /\ ∀ g, g ∈ fs.map (·.1) -> g ∈ (lO f v fs).map (·.1)
 | [] => ⟨by simp [lO], fun g h => by simp at h⟩
 | (k, x) :: r => by
  obtain ⟨i1, i2⟩ := qZ f v r
  rw [show lO f v ((k, x) :: r) = (if k = f then (k, v) :: r else (k, x) :: lO f v r) from rfl]
  by_cases hk : k = f
  ·rw [if_pos hk]
   subst hk
   exact ⟨Z2, fun g h => by simpa using h⟩
  ·rw [if_neg hk]
   refine ⟨?_, fun g h => ?_⟩
   ·rw [map_cons]
    exact mem_cons_of_mem _ i1
   ·rw [map_cons] at h ⊢
    rcases mem_cons.mp h with e | e
    ·exact mem_cons.mpr (.inl e)
    ·exact mem_cons_of_mem _ (i2 g e)
theorem n6 (f : Str) (v : V) : ∀ fs : List (Str × V), (lO f v fs).length <= fs.length + 1
 | [] => by simp [lO]
 | (k, x) :: r => by
  have ih := n6 f v r
  rw [show lO f v ((k, x) :: r) = (if k = f then (k, v) :: r else (k, x) :: lO f v r) from rfl]
  by_cases hk : k = f
  ·rw [if_pos hk, length_cons, length_cons]; omega
  ·rw [if_neg hk, length_cons, length_cons]; omega
theorem kZ.some_of {v : V} {o : Option Value} (r : kZ (some v) o) : ∃ u, o = some u /\ RelV v u := by
 cases o with
 | none => exact (show False from r).elim
 | some u => exact ⟨u, rfl, r⟩
theorem kZ.none_of {o : Option Value} (r : kZ none o) : o = none := by
 cases o with
 | none => rfl
 | some u => exact (show False from r).elim
theorem wM {v : V} {u : Value} (r : RelV v u) : handedIn u = true := by
 cases v with
 | non => cases (show u = Value.none from r); rfl
 | bl b => cases (show u = Value.bool b from r); rfl
 | int i => obtain ⟨t, e⟩ := (show ∃ t, u = Value.int i t from r); cases e; rfl
 | str x => obtain ⟨t, e⟩ := (show ∃ t, u = Value.str x t from r); cases e; rfl
 | byt b => obtain ⟨t, e⟩ := (show ∃ t, u = Value.bytes b t from r); cases e; rfl
 | flt b => obtain ⟨t, e⟩ := (show ∃ t, u = Value.float b t from r); cases e; rfl
 | ref a => cases (show u = Value.ref a from r); rfl
 | ty n => cases (show u = Value.type n from r); rfl
section
variable {P : Program} {w : World} {H H' : Hp} {h h' : Heap} {a C dx : Addr} {fs fs' : List (Str × V)}
theorem tU (hok : HOk P w H h) (e : H a = some (.ins C dx fs)) : ∃ mA, Bx h a dx C mA /\ (∀ f, kZ (fs.lookup f) (mA f)) /\ PySem.Within mA (fs.map (·.1)) /\ fs.length <= 1000 /\ H dx = some (.own a) := by
 obtain ⟨d, z, ne, ob, mA, n, r, q⟩ := (show bY P w H h a (.ins C dx fs) from hok a _ e)
 exact ⟨mA, ⟨ob, n, ne⟩, r, q, z, d⟩
end
structure Cls (K : Frag) (C : Addr) : Prop where
 pg : plainGet K C Str.empty = true
 hd : hasDictIn K C = true
 po : plainOver K C = true
 sa : findIn K (.ref C) "__setattr__" = some (some (.builtin "object.__setattr__"))
theorem Cls.get {K : Frag} {C : Addr} (c : Cls K C) (f : Str) : plainGet K C f = true := c.pg
def bW (K : Frag) (C : Addr) (f : Str) : Prop := findIn K (.ref C) f = some none
theorem bW.taker {K : Frag} {C : Addr} {f : Str} (n : bW K C f) : takerIn K C f = some none := by
 unfold takerIn
 rw [show findIn K (.ref C) f = some none from n]
 rfl
structure Meth (K : Frag) (C : Addr) (m : Str) (f : Addr) : Prop where
 at_ : findIn K (.ref C) m = some (some (.ref f))
 fn : isFn K (.ref f) = true
 kp : keepIn K (.ref f) = true
section
variable {X : Cx} {pins : OP} {σ : St} {H : Hp} {s : Shared} {a C dx : Addr} {fs : List (Str × V)} {f : Str} {v : V} {A : Around} {E : EV}
theorem BP {b : Bool} {Q : EV} (I : Inv X pins σ H s) (e : H a = some (.ins C dx fs)) (c : Cls X.K C) (n : bW X.K C f) (l : fs.lookup f = some v)
  (h : ∀ u s', Inv X pins σ H s' -> RelV v u -> Q u s') : wpAny (model X.prog X.w) A (getAttr (.ref a) f b) Q E s := by
 obtain ⟨mA, O, r, _, _, _⟩ := tU I.hok e
 obtain ⟨u, hu, ru⟩ := kZ.some_of (v := v) (o := mA f) (by rw [<- l]; exact r f)
 exact Jw I.kIn O (c.get f) c.hd n hu (wM ru) (h u _ (I.tok _) ru)
theorem mJ {m : Str} {g : Addr} {pl : Sem Bool} {Q : Value × List Value -> Shared -> Prop} (I : Inv X pins σ H s) (e : H a = some (.ins C dx fs)) (c : Cls X.K C) (k : Meth X.K C m g) (l : fs.lookup m = none)
  (h : Q (.ref g, [.ref a]) s) : wpAny (model X.prog X.w) A (getMethod (.ref a) m pl) Q E s := by
 obtain ⟨mA, O, r, _, _, _⟩ := tU I.hok e
 have hn : mA m = none := kZ.none_of (by rw [<- l]; exact r m)
 exact Ie I.kIn O (c.get m) k.at_ k.fn hn h
theorem By {y : V} {u : Value} {Q : Unit -> Shared -> Prop} (I : Inv X pins σ H s) (e : H a = some (.ins C dx fs)) (c : Cls X.K C) (n : bW X.K C f) (hl : fs.length < 1000) (ry : RelV y u)
  (h : ∀ s', Inv X pins σ (upd H a (.ins C dx (lO f y fs))) s' -> Q () s') : wpAny (model X.prog X.w) A (setAttr (.ref a) f u) Q E s := by
 obtain ⟨mA, O, r, wi, _, ho⟩ := tU I.hok e
 have hz : (fs.map (·.1)).length <= sizeLine := by rw [length_map, sizeLine_eq]; omega
 refine JD I.kIn O c.sa c.po n.taker c.hd wi hz fun h' O' sb => h _ ?_
 have hd : ∃ o, h'.get? dx = some o := let ⟨o, _, _, e', _⟩ := O'.ns; ⟨o, e'⟩
 refine I.write (x := a) (e := dx) (by rw [e]; exact True.intro) (.inr ho) (fun b q hb z => (sb.2 b hb).trans z) hd ?_
 refine ⟨by rw [aK O.ne]; exact ho, ?_, O.ne, O'.obj, _, O'.ns, fun g => ?_, fun g hg => ?_⟩
 ·have := n6 f y fs; omega
 ·show kZ ((lO f y fs).lookup g) (if g = f then some u else mA g)
  rw [jx]
  by_cases q : g = f
  ·rw [if_pos q, if_pos q]; exact ry
  ·rw [if_neg q, if_neg q]; exact r g
 ·by_cases q : g = f
  ·rw [q]; exact (qZ f y fs).1
  ·refine (qZ f y fs).2 g (wi g fun z => hg ?_)
   show (if g = f then some u else mA g) = none
   rw [if_neg q]; exact z
theorem Inv.made (I : Inv X pins σ H s) : Inv X pins σ (upd (upd H s.heap.objs.size (.own (s.heap.objs.size + 1))) (s.heap.objs.size + 1) (.ins C s.heap.objs.size []))
  { s with heap := (s.heap.push emptyDict).push (instObj C s.heap.objs.size) } := by
 have e1 : (s.heap.push emptyDict).get? s.heap.objs.size = some emptyDict := Heap.get?_push_size s.heap rfl
 have e2 : ((s.heap.push emptyDict).push (instObj C s.heap.objs.size)).get? (s.heap.objs.size + 1) = some (instObj C s.heap.objs.size) := by
  have := Heap.get?_push_size (s.heap.push emptyDict) (o := instObj C s.heap.objs.size) rfl
  rwa [Heap.size_push] at this
 have e3 : (s.heap.push emptyDict).Ns s.heap.objs.size (fun _ => none) := ⟨emptyDict, #[], _, e1, rfl, (fun e he => absurd he Z2), fun _ => rfl⟩
 have I1 := I.laid (a := s.heap.objs.size) (o := .own (s.heap.objs.size + 1)) (h' := s.heap.push emptyDict) (t' := s.toks) (fun b u q => Heap.get?_push_of_some _ q) (le_refl _) ⟨_, e1⟩
 refine I1.laid (a := s.heap.objs.size + 1) (o := .ins C s.heap.objs.size []) (t' := s.toks) (fun b u q => Heap.get?_push_of_some _ q) (le_of_eq (Heap.size_push _ _)) ?_
 have ne : s.heap.objs.size ≠ s.heap.objs.size + 1 := ne_of_lt (Nat.lt_succ_self _)
 refine ⟨by rw [aK ne, ak], zero_le _, ne, e2, fun _ => none, (Heap.Ns1.of_empty e3).at fun o q => Heap.get?_push_of_some _ q, fun _ => True.intro, fun y hy => absurd rfl hy⟩
theorem Df {prog : Program} {w : World} {env : Env} {e : Expr} {f : Str} {pos : Pos} {s : Shared} {Q : EV} (hb : attributeBase e f env (eval e env) = eval e env)
  (h : wpAny (model prog w) A (eval e env) (fun o s₁ => wpAny (model prog w) A (getAttr o f true) Q E s₁) E s) : wpAny (model prog w) A (eval (.Attribute e f pos) env) Q E s :=
 Attribute_any_ h (by rw [arm_eval_Attribute, hb])
end
def Ou (K : Frag) (ta : TE) (f : Str) : TE := fun σ H Q => ta σ H fun x H1 => ∃ a C dx fs v, x = .ref a /\ H1 a = some (.ins C dx fs) /\ Cls K C /\ bW K C f /\ fs.lookup f = some v /\ Q v H1
def Qz (K : Frag) (ta tv : TE) (f : Str) : TS := fun D σ H => tv σ H fun y H1 => ta σ H1 fun x H2 => ∃ a C dx fs, x = .ref a /\ H2 a = some (.ins C dx fs) /\ Cls K C /\ bW K C f /\ fs.length < 1000 /\
 D.nx σ (upd H2 a (.ins C dx (lO f y fs)))
section
variable {X : Cx} {o e value : Expr} {f : Str} {pos pos' tpos : Pos} {ta tv : TE}
theorem bC (he : PE X e ta) (hb : attributeBase e f X.env (eval e X.env) = eval e X.env) : PE X (.Attribute e f pos) (Ou X.K ta f) := by
 intro pins s σ H Q I h
 refine Df hb (thn (he pins s σ H _ I h) fun u s1 hz => ?_)
 obtain ⟨x, H1, I1, rx, a, C, dx, fs, v, ex, ea, c, n, l, q⟩ := hz
 subst ex
 obtain rfl : u = Value.ref a := rx
 exact BP I1 ea c n l fun u' s2 I2 ru => ⟨v, H1, I2, ru, q⟩
theorem Np (ha : PE X o ta) (hv : PE X value tv) (hs : swapsWith value (some (.Attribute o f pos')) pos.line X.env = pure false) : PS X (.Assign [.Attribute o f pos'] value pos) (Qz X.K ta tv f) := by
 intro pins s σ H D I h
 refine plainObj_wpAny_Assign_Attribute (thn (hv pins s σ H _ I h) fun u s1 ⟨y, H1, I1, ry, q⟩ => thn (ha pins s1 σ H1 _ I1 q) fun ov s2 hz => ?_) hs
 obtain ⟨x, H2, I2, rx, a, C, dx, fs, ex, ea, c, n, l, q2⟩ := hz
 subst ex
 obtain rfl : ov = Value.ref a := rx
 exact By I2 ea c n l ry fun s3 I3 => ⟨σ, _, I3, q2⟩
end
section
variable {X : Cx} {pins : OP} {σ : St} {H : Hp} {s : Shared} {A : Around} {E : EV} {Q : EV} {c : Value} {b : Bool}
inductive pM (K : Frag) (H : Hp) : V -> Value -> Prop where
 | non : pM K H .non (.type "NoneType")
 | bl (x : Bool) : pM K H (.bl x) (.type "bool")
 | int (i : Int) : pM K H (.int i) (.type "int")
 | str (x : Str) : pM K H (.str x) (.type "str")
 | flt (x : UInt64) : pM K H (.flt x) (.type "float")
 | lst {a : Addr} {xs : List V} (e : H a = some (.lst xs)) : pM K H (.ref a) (.type "list")
 | frz {a : Addr} {o : Obj} {xs : List V} (e : H a = some (.frz o (.lst xs))) : pM K H (.ref a) (.type "list")
 | tup {a : Addr} {xs : List V} (e : H a = some (.tup xs)) : pM K H (.ref a) (.type "tuple")
 | dK {a : Addr} {kvs : List (Key × V)} (e : H a = some (.dK kvs)) : pM K H (.ref a) (.type "dict")
 | dT {a : Addr} {kvs : List (List Key × V)} (e : H a = some (.dT kvs)) : pM K H (.ref a) (.type "dict")
 | ins {a C dx : Addr} {fs : List (Str × V)} (e : H a = some (.ins C dx fs)) (cl : Cls K C) (ha : findIn K (.ref C) "__class__" = some (some (.builtin "object.__class__")))
   (hn : specialIn K (.builtin "object.__class__") "__get__" = some (some (.builtin "getset_descriptor.__get__"))) (htk : takesIn K (.builtin "object.__class__") = some true)
   (hm : mroIn K C (.type "object") = some true) : pM K H (.ref a) (.ref C)
theorem Ff {x : V} {u t : Value} (I : Inv X pins σ H s) (rx : RelV x u) (ty : pM X.K H x t) (e : kitOne X.K t c = some b) (h : ∀ tk, Q (.bool b) { s with toks := tk }) :
  wpAny (model X.prog X.w) A (call (.builtin "isinstance") [u, c]) Q E s := by
 cases ty with
 | non => cases (show u = Value.none from rx); exact kia_one PySem.W.kitx_none I.kIn True.intro e (fun z => nomatch z) h
 | bl y => cases (show u = Value.bool y from rx); exact kia_one PySem.W.kitx_bool I.kIn True.intro e (fun z => nomatch z) h
 | int i => obtain ⟨t, q⟩ := (show ∃ t, u = Value.int i t from rx); cases q; exact kia_one PySem.W.kitx_int I.kIn True.intro e (fun z => nomatch z) h
 | str y => obtain ⟨t, q⟩ := (show ∃ t, u = Value.str y t from rx); cases q; exact kia_one PySem.W.kitx_str I.kIn True.intro e (fun z => nomatch z) h
 | flt y => obtain ⟨t, q⟩ := (show ∃ t, u = Value.float y t from rx); cases q; exact kia_one PySem.W.kitx_float I.kIn True.intro e (fun z => nomatch z) h
 | @lst a xs ea =>
  cases (show u = Value.ref a from rx)
  obtain ⟨_, _, n, _, h1⟩ := (show bY X.prog X.w H s.heap a (.lst xs) from I.hok a _ ea)
  exact kia_one kitx_list I.kIn ⟨_, h1, rfl⟩ e (fun z => nomatch z) h
 | @frz a ob xs ea =>
  cases (show u = Value.ref a from rx)
  obtain ⟨_, _, _, n, _, h1⟩ := (show bY X.prog X.w H s.heap a (.frz ob (.lst xs)) from I.hok a _ ea)
  exact kia_one kitx_list I.kIn ⟨_, h1, rfl⟩ e (fun z => nomatch z) h
 | @tup a xs ea =>
  cases (show u = Value.ref a from rx)
  obtain ⟨_, _, _, p⟩ := (show bY X.prog X.w H s.heap a (.tup xs) from I.hok a _ ea)
  obtain ⟨o, h1, h2, _⟩ := p
  exact kia_one PySem.W.kitx_tuple I.kIn ⟨o, h1, h2⟩ e (fun z => nomatch z) h
 | @dK a kvs ea =>
  cases (show u = Value.ref a from rx)
  obtain ⟨_, _, vs, _, p⟩ := (show bY X.prog X.w H s.heap a (.dK kvs) from I.hok a _ ea)
  obtain ⟨o, es, ep, h1, h2, _⟩ := p
  exact kia_one kitx_dict I.kIn ⟨o, h1, h2.1⟩ e (fun z => nomatch z) h
 | @dT a kvs ea =>
  cases (show u = Value.ref a from rx)
  obtain ⟨_, _, xs, _, o, es, ep, h1, h2, _⟩ := (show bY X.prog X.w H s.heap a (.dT kvs) from I.hok a _ ea)
  exact kia_one kitx_dict I.kIn ⟨o, h1, h2.1⟩ e (fun z => nomatch z) h
 | @ins a C dx fs ea cl ha hn htk hm =>
  cases (show u = Value.ref a from rx)
  obtain ⟨mA, O, _⟩ := tU I.hok ea
  obtain ⟨od, J, _⟩ := O.look
  exact kia_one (PySem.W.kitx_own (cl.get _) cl.hd ha hn htk hm) I.kIn J e (fun z => nomatch z) h
end
structure aY (k : Nat) (A : Around) : Prop where
 hd : A.handled = none
 dp : A.depth + 3 * k + 5 < recursionLimit
 un : A.units + 16 * k + 200 < cLine
theorem aY.mono {j k : Nat} {A : Around} (r : aY k A) (h : j <= k) : aY j A := ⟨r.hd, by have := r.dp; omega, by have := r.un; omega⟩
theorem aY.deeper {k : Nat} {A : Around} (r : aY (k + 1) A) (env : Env) : aY k (A.deeper env) :=
 ⟨r.hd, by have := r.dp; show A.depth + 1 + 3 * k + 5 < _; omega, by have := r.un; show A.units + 3 + 16 * k + 200 < _; omega⟩
theorem Ci {A : Around} {C : Addr} {us : List Value} {kw : List (Str × Value)} : (A.under (.builtin "type.__call__" ⟨.ref C :: us, kw⟩)).depth = A.depth + 1 := by
 first | rfl | simp [Around.under, Code.weight, Code.isCreation, Code.isGuard, Code.isCaller, Code.frames, Code.isFrame, guardIds]
theorem Cm {A : Around} {C : Addr} {us : List Value} {kw : List (Str × Value)} : (A.under (.builtin "type.__call__" ⟨.ref C :: us, kw⟩)).units = A.units + 1 := by
 first | rfl | simp [Around.under, Code.cUnits, Code.frames, Code.isFrame]
theorem aY.make {k : Nat} {A : Around} (r : aY (k + 1) A) (C : Addr) (us : List Value) (kw : List (Str × Value)) : aY k (A.under (.builtin "type.__call__" ⟨.ref C :: us, kw⟩)) :=
 ⟨r.hd, by have := r.dp; rw [Ci]; omega, by have := r.un; rw [Cm]; omega⟩
theorem aY.depth {k : Nat} {A : Around} (r : aY k A) : A.depth < recursionLimit := by have := r.dp; omega
theorem aY.units {k : Nat} {A : Around} (r : aY k A) : A.units + 64 < cLine := by have := r.un; omega
def Fd : TA := fun _ H Q => Q [] H
def wO (ta : TE) (tr : TA) : TA := fun σ H Q => ta σ H fun x H1 => tr σ H1 fun xs H2 => Q (x :: xs) H2
section
variable {X : Cx} {e : Expr} {es : List Expr} {te : TE} {t : TA} {pos : Pos}
theorem ao : PA X [] Fd := fun _ _ _ _ H Q I h => Calls.spliced_nil ⟨[], H, I, .nil, h⟩
theorem aj (ha : PE X e te) (hr : PA X es t) (hs : starEach (e :: es) X.env = (false, eval e X.env) :: starEach es X.env := by rfl) : PA X (e :: es) (wO te t) := by
 intro pos pins s σ H Q I h
 rw [hs]
 show wpAny _ _ (spliced ((false, eval e X.env) :: backTo pos (starEach es X.env))) _ _ s
 refine Calls.spliced_cons (thn (ha pins s σ H _ I h) fun u s1 ⟨x, H1, I1, r1, q1⟩ => ?_)
 exact thn (hr pos pins s1 σ H1 _ I1 q1) fun us s2 ⟨xs, H2, I2, r2, q2⟩ => ⟨x :: xs, H2, I2, .cons r1 r2, q2⟩
def Q9 (t : TA) : TE := fun σ H Q => t σ H fun xs H1 => xs.length <= sizeLine /\ ∀ p, H1 p = none -> Q (.ref p) (upd H1 p (.tup xs))
def Ma (t : TA) : TE := fun σ H Q => t σ H fun xs H1 => xs.length <= sizeLine /\ ∀ p, H1 p = none -> Q (.ref p) (upd H1 p (.lst xs))
theorem bN {x1} (h : PA X es t) : PE X (.Tuple es x1 pos) (Q9 t) := by
 intro pins s σ H Q I hq
 refine wpAny_Tuple_spliced (thn (h pos pins s σ H _ I hq) fun us s1 ⟨xs, H1, I1, r, z, q⟩ => ⟨by rw [<- r.length]; exact z, ?_⟩)
 have hf : H1 s1.heap.objs.size = none := I1.hok.fresh (le_refl _)
 refine ⟨.ref s1.heap.objs.size, upd H1 s1.heap.objs.size (.tup xs), I1.laid (t' := s1.toks) (fun b u e => Heap.get?_push_of_some _ e) (le_refl _) ?_, rfl, q _ hf⟩
 exact ⟨z, us, r, ⟨_, Heap.get?_push_size _ rfl, rfl, _, rfl⟩⟩
theorem bM (h : PA X es t) : PE X (.List es pos) (Ma t) := by
 intro pins s σ H Q I hq
 refine wpAny_List_spliced (thn (h pos pins s σ H _ I hq) fun us s1 ⟨xs, H1, I1, r, z, q⟩ => ⟨by rw [<- r.length]; exact z, ?_⟩)
 have hf : H1 s1.heap.objs.size = none := I1.hok.fresh (le_refl _)
 refine ⟨.ref s1.heap.objs.size, upd H1 s1.heap.objs.size (.lst xs), I1.laid (t' := s1.toks) (fun b u e => Heap.get?_push_of_some _ e) (le_refl _) ?_, rfl, q _ hf⟩
 exact ⟨z, us, 0, r, Heap.get?_push_size _ rfl⟩
end
abbrev Sp := List V -> Hp -> VK -> XK -> Prop
abbrev CXT := List Env -> Hp -> Shared -> XK -> Value -> Shared -> Prop
structure Bh (P : Program) (w : World) (K : Frag) (mg : MG) (base : Heap) (A : Around) (outer : List Env) (s : Shared) (H : Hp) : Prop where
 frames : A.frames = some outer
 mod : Mod K mg base
 bs : ∀ b o, base.get? b = some o -> s.heap.get? b = some o /\ H b = none
 bsz : base.objs.size <= s.heap.objs.size
 funs : s.heap.FunFrames base outer
 frf : ∀ b ∈ frs outer, H b = none
 hok : HOk P w H s.heap
 bare : AllBare s.gens
def CE (outer : List Env) (P : Program) (w : World) (H : Hp) (s : Shared) (Q : VK) (u : Value) (s' : Shared) : Prop :=
 ∃ v H', s'.os = s.os /\ AllBare s'.gens /\ Un (frs outer) [] H H' s.heap s'.heap /\ HOk P w H' s'.heap /\ RelV v u /\ Q v H'
def CR (CX : CXT) (outer : List Env) (P : Program) (w : World) (H : Hp) (s : Shared) (Q : VK) (E : XK) (r : Result) (s' : Shared) : Prop :=
 match r with
 | .ok (.ret u) => CE outer P w H s Q u s'
 | .ok _ => False
 | .error e => CX outer H s E e s'
structure aL (P : Program) (w : World) (K : Frag) (mg : MG) (base : Heap) (CX : CXT) (k : Nat) (f : Addr) (fd : FuncData) (ps : List Str) (sp : Sp) : Prop where
 len : ∀ vs H Q E, sp vs H Q E -> vs.length = ps.length
 run : ∀ (A : Around) (outer : List Env) (s : Shared) (H : Hp) (args : Args) (us : List Value) (vs : List V) (Q : VK) (E : XK), aY k A -> Bh P w K mg base A outer s H -> BindsTo s fd args (ps.zip us) -> Vals vs us -> sp vs H Q E ->
  codeAny (model P w) A (.call (.ref f) args) (CR CX outer P w H s Q E) s
theorem aL.mono {P : Program} {w : World} {K : Frag} {mg : MG} {base : Heap} {CX : CXT} {j k : Nat} {f : Addr} {fd : FuncData} {ps : List Str} {sp : Sp} (F : aL P w K mg base CX j f fd ps sp) (h : j <= k) :
  aL P w K mg base CX k f fd ps sp := ⟨F.len, fun A outer s H args us vs Q E hr => F.run A outer s H args us vs Q E (hr.mono h)⟩
theorem aL.imp {P : Program} {w : World} {K : Frag} {mg : MG} {base : Heap} {CX : CXT} {k : Nat} {f : Addr} {fd : FuncData} {ps : List Str} {sp sp' : Sp} (F : aL P w K mg base CX k f fd ps sp)
  (h : ∀ vs H Q E, sp' vs H Q E -> sp vs H Q E) : aL P w K mg base CX k f fd ps sp' :=
 ⟨fun vs H Q E q => F.len vs H Q E (h _ _ _ _ q), fun A outer s H args us vs Q E hr he hb hv hs => F.run A outer s H args us vs Q E hr he hb hv (h _ _ _ _ hs)⟩
theorem Bh.make {P : Program} {w : World} {K : Frag} {mg : MG} {base : Heap} {A : Around} {outer : List Env} {s : Shared} {H : Hp} (e : Bh P w K mg base A outer s H) (C : Addr) (us : List Value) (kw : List (Str × Value)) :
  Bh P w K mg base (A.under (.builtin "type.__call__" ⟨.ref C :: us, kw⟩)) outer s H := ⟨by first | exact e.frames | (simpa [Around.under, Code.envs, Code.isFrame, pushEnvs] using e.frames), e.mod, e.bs, e.bsz, e.funs, e.frf, e.hok, e.bare⟩
section
variable {X : Cx} {pins : OP} {σ : St} {H : Hp} {s s' : Shared}
theorem Inv.env0 (I : Inv X pins σ H s) : Bh X.prog X.w X.K X.mg X.base X.A X.stack s H :=
 ⟨I.ok.frames, I.ok.mod, I.bs, le_trans I.ok.bsz I.sz, I.stack, I.stkFree, I.hok, I.bare⟩
theorem Inv.after {Q : VK} {u : Value} (I : Inv X pins σ H s) (h : CE X.stack X.prog X.w H s Q u s') : EP X pins σ Q u s' := by
 obtain ⟨v, H', os, bare, un, hok, r, q⟩ := h
 obtain ⟨hh, g, d, t, os'⟩ := s'
 obtain rfl : os' = s.os := os
 exact ⟨v, H', I.call (h' := hh) (g' := g) (d' := d) (t' := t) (ch := []) un hok bare (fun b z => absurd z Z2), r, q⟩
end
def Dh (sp : Sp) (dvs : List V) (E : XK) (t : TA) : TE := fun σ H Q => t σ H fun vs H1 => sp (vs ++ dvs) H1 Q E
def Le (C : Addr) (m : Str) (sp : Sp) (dvs : List V) (E : XK) (ta : TE) (t : TA) : TE := fun σ H Q => ta σ H fun x H1 => ∃ a dx fs, x = .ref a /\ H1 a = some (.ins C dx fs) /\ fs.lookup m = none /\
 t σ H1 fun vs H2 => sp (x :: (vs ++ dvs)) H2 Q E
def Kw (C : Addr) (sp : Sp) (dvs : List V) (E : XK) (t : TA) : TE := fun σ H Q => t σ H fun vs H1 => ∀ x dx, H1 x = none -> H1 dx = none -> dx ≠ x ->
 sp (.ref x :: (vs ++ dvs)) (upd (upd H1 dx (.own x)) x (.ins C dx [])) (fun v H2 => v = .non /\ Q (.ref x) H2) E
def Binds (K : Frag) (fd : FuncData) (ps : List Str) (ds : List Value) : Prop :=
 ∀ (s : Shared) (us : List Value), K.In s.heap -> (us ++ ds).length = ps.length -> BindsTo s fd ⟨us, []⟩ (ps.zip (us ++ ds))
theorem Binds.all {K : Frag} {fd : FuncData} {ps : List Str} (h : ∀ us : List Value, us.length = ps.length -> bindArgs fd ⟨us, []⟩ = pure (ps.zip us)) : Binds K fd ps [] := fun s us _ hl => by
 rw [append_nil] at hl ⊢
 exact .of_eq (h us hl)
def kJ (CX : CXT) (X : Cx) (E : XK) : Prop := ∀ (pins : OP) (σ : St) (H : Hp) (s : Shared) (e : Value) (s' : Shared), Inv X pins σ H s -> CX X.stack H s E e s' -> X.xe e s'
section
variable {X : Cx} {CX : CXT} {k : Nat} {f C : Addr} {fd : FuncData} {ps : List Str} {sp : Sp} {dvs : List V} {ds : List Value} {E : XK} {x m : Str} {p pos apos : Pos} {e o : Expr} {es : List Expr} {ta : TE} {t : TA}
theorem xR {pins : OP} {σ : St} {H : Hp} {s : Shared} {Q : VK} {us : List Value} {vs : List V} (F : aL X.prog X.w X.K X.mg X.base CX k f fd ps sp) (hr : aY k X.A) (hb : Binds X.K fd ps ds) (hd : Vals dvs ds) (hx : kJ CX X E)
  (I : Inv X pins σ H s) (r : Vals vs us) (h : sp (vs ++ dvs) H Q E) : wpAny (model X.prog X.w) X.A (call (.ref f) us) (EP X pins σ Q) X.xe s := by
 have r2 : Vals (vs ++ dvs) (us ++ ds) := r.append hd
 have hl : (us ++ ds).length = ps.length := by rw [<- r2.length]; exact F.len _ _ _ _ h
 refine wpAny_call (codeAny_mono (F.run X.A X.stack s H ⟨us, []⟩ (us ++ ds) (vs ++ dvs) Q E hr I.env0 (hb s us I.kIn hl) r2 h) fun r s' hq => ?_)
 cases r with
 | error e => exact hx pins σ H s e s' I hq
 | ok fl =>
  cases fl with
  | ret u => exact I.after hq
  | next => exact False.elim hq
  | brk => exact False.elim hq
  | cont => exact False.elim hq
theorem Ks (F : aL X.prog X.w X.K X.mg X.base CX k f fd ps sp) (hr : aY k X.A) (hg : Gl X x) (hm : X.mg x = some (.ref f)) (hk : keepIn X.K (.ref f) = true) (hb : Binds X.K fd ps ds) (hd : Vals dvs ds) (hx : kJ CX X E)
  (ha : PA X (e :: es) t) (hdb : (x == ("__debug__" : Str)) = false := by decide) (he : starEach (e :: es) X.env = (false, eval e X.env) :: starEach es X.env := by rfl) (hpl : (backTo pos (starEach es X.env)).any (·.1) = false := by rfl) :
  PE X (.Call (.Name x p) (e :: es) [] pos) (Dh sp dvs E t) := by
 intro pins s σ H Q I h
 refine wpAny_Call_Name_kw (iK I hg hm ?_ hdb)
 refine callWith_K (h₀ := X.base) I.ok.mod.kin hk (thn (ha pos pins s σ H _ I h) fun us s1 ⟨vs, H1, I1, r, q⟩ => ⟨I1.kIn, ?_⟩) he hpl
 exact xR F hr hb hd hx I1 r q
theorem tY {pl : Sem Bool} (he : PE X o ta) (c : Cls X.K C) (hm : Meth X.K C m f) (F : aL X.prog X.w X.K X.mg X.base CX k f fd ps sp) (hr : aY k X.A) (hb : Binds X.K fd ps ds) (hd : Vals dvs ds) (hx : kJ CX X E) (ha : PA X (e :: es) t)
  (hst : starEach (e :: es) X.env = (false, eval e X.env) :: starEach es X.env := by rfl) (hpl : (backTo pos (starEach es X.env)).any (·.1) = false := by rfl)
  (ht : eval (.Call (.Attribute o m apos) (e :: es) [] pos) X.env = (do
   let ov <- eval o X.env
   standAt apos.atName
   let (f, first) <- holding [ov] (getMethod ov m pl)
   callWith pos f first (backTo pos (starEach (e :: es) X.env)) (backToKw pos (keywordEach [] X.env))) := by rfl) :
  PE X (.Call (.Attribute o m apos) (e :: es) [] pos) (Le C m sp dvs E ta t) := by
 intro pins s σ H Q I h
 refine methodCall_KW (pl := pl) (thn (he pins s σ H _ I h) fun u s1 ⟨x, H1, I1, rx, a, dx, fs, ex, ea, l, q⟩ => ?_) ht
 subst ex
 obtain rfl : u = Value.ref a := rx
 refine mJ I1 ea c hm l ?_
 refine callWith_K (first := [.ref a]) (h₀ := X.base) I.ok.mod.kin hm.kp (thn (ha pos pins s1 σ H1 _ I1 q) fun us s2 ⟨vs, H2, I2, r, q2⟩ => ⟨I2.kIn, ?_⟩) hst hpl
 exact xR (us := .ref a :: us) (vs := .ref a :: vs) F hr hb hd hx I2 (.cons rfl r) q2
theorem jr {pl : Sem Bool} (he : PE X o ta) (c : Cls X.K C) (hm : Meth X.K C m f) (F : aL X.prog X.w X.K X.mg X.base CX k f fd ps sp) (hr : aY k X.A) (hb : Binds X.K fd ps ds) (hd : Vals dvs ds) (hx : kJ CX X E)
  (ht : eval (.Call (.Attribute o m apos) [] [] pos) X.env = (do
   let ov <- eval o X.env
   standAt apos.atName
   let (f, first) <- holding [ov] (getMethod ov m pl)
   callWith pos f first (backTo pos (starEach [] X.env)) (backToKw pos (keywordEach [] X.env))) := by rfl) :
  PE X (.Call (.Attribute o m apos) [] [] pos) (Le C m sp dvs E ta Fd) := by
 intro pins s σ H Q I h
 refine methodCall_KW (pl := pl) (thn (he pins s σ H _ I h) fun u s1 ⟨x, H1, I1, rx, a, dx, fs, ex, ea, l, q⟩ => ?_) ht
 subst ex
 obtain rfl : u = Value.ref a := rx
 refine mJ I1 ea c hm l ?_
 exact PySem.W.callWith_K0 (first := [.ref a]) I1.kIn hm.kp (xR (us := [.ref a]) (vs := [.ref a]) F hr hb hd hx I1 (.cons rfl .nil) q)
structure Mk (K : Frag) (C f : Addr) : Prop where
 makes : makesIn K C = true
 init : findIn K (.ref C) "__init__" = some (some (.ref f))
 fn : isFn K (.ref f) = true
 kp : keepIn K (.ref C) = true
theorem Jk {pins : OP} {σ : St} {H : Hp} {s : Shared} {Q : VK} {us : List Value} {vs : List V} (M : Mk X.K C f) (F : aL X.prog X.w X.K X.mg X.base CX k f fd ps sp) (hr : aY (k + 1) X.A) (hb : Binds X.K fd ps ds) (hd : Vals dvs ds)
  (hx : kJ CX X E) (I : Inv X pins σ H s) (r : Vals vs us)
  (h : ∀ x dx, H x = none -> H dx = none -> dx ≠ x -> sp (.ref x :: (vs ++ dvs)) (upd (upd H dx (.own x)) x (.ins C dx [])) (fun v H2 => v = .non /\ Q (.ref x) H2) E) :
  wpAny (model X.prog X.w) X.A (call (.ref C) us) (EP X pins σ Q) X.xe s := by
 have hq := h (s.heap.objs.size + 1) s.heap.objs.size (I.hok.fresh (le_succ _)) (I.hok.fresh (le_refl _)) (ne_of_lt (Nat.lt_succ_self _))
 have I2 := Inv.made (C := C) I
 have r2 : Vals (V.ref (s.heap.objs.size + 1) :: (vs ++ dvs)) (Value.ref (s.heap.objs.size + 1) :: (us ++ ds)) := .cons rfl (r.append hd)
 have hl : (Value.ref (s.heap.objs.size + 1) :: us ++ ds).length = ps.length := by
  have e := r2.length
  rw [F.len _ _ _ _ hq] at e
  exact e.symm
 refine wpAny_call (Ax (f := f) I.kIn M.makes M.init (beq_iff_eq.mp M.fn) (codeAny_mono (F.run _ X.stack _ _ ⟨Value.ref (s.heap.objs.size + 1) :: us, []⟩ (Value.ref (s.heap.objs.size + 1) :: (us ++ ds)) _ _ E (hr.make C us [])
  (I2.env0.make C us []) (hb _ (Value.ref (s.heap.objs.size + 1) :: us) I2.kIn hl) r2 hq) fun r s' hq' => ?_))
 cases r with
 | error e => exact hx pins σ _ _ e s' I2 hq'
 | ok fl =>
  cases fl with
  | ret u =>
   obtain ⟨v, H', I3, rv, ev, q3⟩ := I2.after hq'
   subst ev
   exact ⟨rv, ⟨V.ref (s.heap.objs.size + 1), H', I3, rfl, q3⟩⟩
  | next => exact False.elim hq'
  | brk => exact False.elim hq'
  | cont => exact False.elim hq'
theorem JG (M : Mk X.K C f) (F : aL X.prog X.w X.K X.mg X.base CX k f fd ps sp) (hr : aY (k + 1) X.A) (hg : Gl X x) (hm : X.mg x = some (.ref C)) (hb : Binds X.K fd ps ds) (hd : Vals dvs ds) (hx : kJ CX X E)
  (ha : PA X (e :: es) t) (hdb : (x == ("__debug__" : Str)) = false := by decide) (he : starEach (e :: es) X.env = (false, eval e X.env) :: starEach es X.env := by rfl) (hpl : (backTo pos (starEach es X.env)).any (·.1) = false := by rfl) :
  PE X (.Call (.Name x p) (e :: es) [] pos) (Kw C sp dvs E t) := by
 intro pins s σ H Q I h
 refine wpAny_Call_Name_kw (iK I hg hm ?_ hdb)
 refine callWith_K (h₀ := X.base) I.ok.mod.kin M.kp (thn (ha pos pins s σ H _ I h) fun us s1 ⟨vs, H1, I1, r, q⟩ => ⟨I1.kIn, ?_⟩) he hpl
 exact Jk M F hr hb hd hx I1 r q
end
section
variable {X : Cx} {CX : CXT} {k : Nat} {f C : Addr} {fd : FuncData} {ps ks : List Str} {sp : Sp} {E : XK} {x m : Str} {p pos apos kpos : Pos} {e o : Expr} {es : List Expr} {kws : List Keyword} {te ta : TE} {t tk : TA} {nm : Option Str}
variable {g : List Value -> List Value -> List Value} {gV : List V -> List V -> List V}
end
structure aG (N P : List Str) (sc : Scope) : Prop where
 kind : sc.kind = .function
 co : sc.isCoroutine = false
 gen : sc.isGenerator = false
 nd : N.Nodup
 pre : N.take P.length = P
 par : ∀ x ∈ P, sc.names.lookup x = some .local \/ sc.names.lookup x = some .cell
 nofree : ∀ y ∈ sc.names, y.2 ≠ .free
theorem wK {kindOf : Str -> Option NameKind} {x : Str} : ∀ {binds : List (Str × Value)} {m : MG}, (∀ v, (x, v) ∉ binds) -> bindL kindOf binds m x = m x
 | [], _, _ => rfl
 | (n, v) :: r, m, h => by
  unfold bindL
  rw [wK fun w hw => h w (mem_cons_of_mem _ hw)]
  split
  ·have : x ≠ n := by rintro rfl; exact h v mem_cons_self
   simp [this]
  ·rfl
theorem wI {kindOf : Str -> Option NameKind} {x : Str} : ∀ {binds : List (Str × Value)} {m : MG}, (∀ v, (x, v) ∉ binds) -> bindC kindOf binds m x = m x
 | [], _, _ => rfl
 | (n, v) :: r, m, h => by
  unfold bindC
  rw [wI fun w hw => h w (mem_cons_of_mem _ hw)]
  split
  ·rfl
  ·have : x ≠ n := by rintro rfl; exact h v mem_cons_self
   simp [this]
theorem wC {kindOf : Str -> Option NameKind} {x : Str} {v : Value} : ∀ {P : List Str} {vs : List Value} {i : Nat} {m : MG}, P.Nodup -> P[i]? = some x -> vs[i]? = some v -> kindOf x = some .local ->
  bindL kindOf (P.zip vs) m x = some v
 | [], _, _, _, _, h, _, _ => by simp at h
 | _ :: _, [], _, _, _, _, h, _ => by simp at h
 | p :: P, w :: vs, 0, m, nd, h1, h2, hk => by
  simp at h1 h2; subst h1; subst h2
  show bindL kindOf ((p, w) :: P.zip vs) m p = _
  unfold bindL
  rw [wK fun v hv => (nodup_cons.mp nd).1 (of_mem_zip hv).1, if_pos hk]
  simp
 | p :: P, w :: vs, i + 1, m, nd, h1, h2, hk => by
  show bindL kindOf ((p, w) :: P.zip vs) m x = _
  unfold bindL
  exact wC (i := i) (nodup_cons.mp nd).2 (by simpa using h1) (by simpa using h2) hk
theorem wA {kindOf : Str -> Option NameKind} {x : Str} {v : Value} : ∀ {P : List Str} {vs : List Value} {i : Nat} {m : MG}, P.Nodup -> P[i]? = some x -> vs[i]? = some v -> kindOf x ≠ some .local ->
  bindC kindOf (P.zip vs) m x = some v
 | [], _, _, _, _, h, _, _ => by simp at h
 | _ :: _, [], _, _, _, _, h, _ => by simp at h
 | p :: P, w :: vs, 0, m, nd, h1, h2, hk => by
  simp at h1 h2; subst h1; subst h2
  show bindC kindOf ((p, w) :: P.zip vs) m p = _
  unfold bindC
  rw [wI fun v hv => (nodup_cons.mp nd).1 (of_mem_zip hv).1, if_neg hk]
  simp
 | p :: P, w :: vs, i + 1, m, nd, h1, h2, hk => by
  show bindC kindOf ((p, w) :: P.zip vs) m x = _
  unfold bindC
  exact wA (i := i) (nodup_cons.mp nd).2 (by simpa using h1) (by simpa using h2) hk
def start (N : List Str) (vs : List V) : St := vs.map some ++ List.replicate (N.length - vs.length) none
def nT (CX : CXT) (P : Program) (w : World) (K : Frag) (mg : MG) (base : Heap) (N : List Str) (qual : Str) (scope : Scope) (f : Addr) (cd : Value) (A : Around) (outer : List Env) (s : Shared) (H : Hp) (E : XK) : Cx where
 prog := P
 w := w
 K := K
 mg := mg
 base := base
 A := A.deeper (envOfC qual scope s.heap.objs.size f cd)
 N := N
 s₀ := s
 H₀ := H
 env := envOfC qual scope s.heap.objs.size f cd
 outer := outer
 stack := envOfC qual scope s.heap.objs.size f cd :: outer
 ex := []
 calm := true
 fn := fun _ => true
 pn := []
 xe := fun e s' => wpAny (model P w) (A.deeper (envOfC qual scope s.heap.objs.size f cd)) («leaving» (envOfC qual scope s.heap.objs.size f cd) e) (fun _ s'' => CX outer H s E e s'') (fun e' s'' => CX outer H s E e' s'') s'
theorem Ae {sc : Scope} {n : Nat} {x : Str} (h : sc.names.lookup x = some .cell) : ∃ c, (cellsFrom n sc.names []).lookup x = some c := by
 have q := cellsFrom_some sc.names n [] (.inl h)
 exact isSome_iff_exists.mp q
theorem wz {CX : CXT} {P : Program} {w : World} {K : Frag} {mg : MG} {base : Heap} {N ps : List Str} {qual : Str} {scope : Scope} {f : Addr} {cd : Value} {A : Around} {outer : List Env} {s s1 : Shared} {H : Hp} {E : XK} {us : List Value} {vs : List V}
  (S : aG N ps scope) (hd : A.handled = none) (e0 : Bh P w K mg base A outer s H) (hl : vs.length = ps.length) (r : Vals vs us)
  (x : InCallC s s.heap.objs.size (bindL (envOfC qual scope s.heap.objs.size f cd).kindOf (ps.zip us) fun _ => none) (cellsFrom (s.heap.objs.size + 1) scope.names []) (bindC (envOfC qual scope s.heap.objs.size f cd).kindOf (ps.zip us) fun _ => none) s1) :
  Inv (nT CX P w K mg base N qual scope f cd A outer s H E) [] (start N vs) H s1 := by
 have hpl : ps.length <= N.length := by have := congrArg List.length S.pre; rw [length_take] at this; omega
 obtain ⟨h1, tk, rfl, hk⟩ := x.done
 have noA : ∀ b : Addr, b ∉ (nT CX P w K mg base N qual scope f cd A outer s H E).ex := fun b z => absurd (show b ∈ ([] : List Addr) from z) Z2
 refine ⟨⟨e0.mod, S.kind, rfl, rfl, le_refl _, fun y z c h1 h2 => ?_, fun y hy => ?_, fun y c _ h => ?_, fun _ => hd, Around.frames_deeper e0.frames, .inr ⟨rfl, rfl⟩, fun b z => absurd z (noA b), e0.bs, e0.bsz, fun b _ _ => noA b, fun b z => absurd z (noA b), e0.funs, e0.frf⟩,
  rfl, e0.bare, Un.kept hk, ⟨_, x.toInCall.ns, fun i y v h1 h2 h3 => ?_⟩, fun y c h => ⟨_, x.cell y c h⟩, e0.hok.fresh (le_refl _), fun y c h => ?_, fun p hp => absurd (show p ∈ ([] : OP) from hp) Z2, e0.hok.kept hk, ?_⟩
 ·exact name_of_addr x.apart (PySem.mem_of_lookup h1) (PySem.mem_of_lookup h2)
 ·have hy : scope.names.lookup y = some .cell \/ scope.names.lookup y = some .free := hy
  rcases hy with hy | hy
  ·exact Ae hy
  ·exact absurd rfl (S.nofree _ (PySem.mem_of_lookup hy))
 ·exact le_of_lt (x.above y c (PySem.mem_of_lookup h))
 ·have hi : i < vs.length := by
   unfold start at h2
   by_cases hi : i < vs.length
   ·exact hi
   ·rw [getElem?_append_right (by simpa using hi)] at h2
    rw [List.getElem?_replicate] at h2
    split at h2 <;> cases h2
  have ha : vs[i]? = some v := by
   unfold start at h2
   rw [getElem?_append_left (by simpa using hi), getElem?_map] at h2
   cases e : vs[i]? with
   | none => rw [e] at h2; cases h2
   | some a => rw [e] at h2; cases h2; rfl
  obtain ⟨u, hu, rv⟩ := r.get ha
  have hp : ps[i]? = some y := by
   rw [<- S.pre, List.getElem?_take_of_lt Z1]; exact h1
  have ndP : ps.Nodup := by rw [<- S.pre]; exact S.nd.sublist (List.take_sublist _ _)
  refine ⟨u, rv, ?_⟩
  rcases S.par y (mem_of_getElem? hp) with k | k
  ·exact .inl ⟨k, wC ndP hp hu k⟩
  ·obtain ⟨c, e⟩ := Ae (n := s.heap.objs.size + 1) k
   refine .inr ⟨.inl k, c, e, ?_⟩
   have q := x.cell y c e
   rw [wA ndP hp hu (by show scope.names.lookup y ≠ _; rw [k]; decide)] at q
   exact q
 ·exact e0.hok.fresh (le_of_lt (x.above y c (PySem.mem_of_lookup h)))
 ·unfold start
  show _ = N.length
  rw [length_append, length_map, List.length_replicate]
  omega
theorem KC {CX : CXT} {P : Program} {w : World} {K : Frag} {mg : MG} {base : Heap} {k : Nat} {f : Addr} {name qual : Str} {params : Arguments} {body : List Stmt} {scope : Scope} {dV kV doc pm cdv ct oc : Value} {an od : Option Addr}
  {osl : Array (Option Value)} {N ps : List Str} {sp : Sp} (lk : K.lookup f = some ⟨oc, od, .func (fnOf name qual params body scope dV kV doc pm an cdv ct), osl⟩) (hcd : codeIn K cdv qual = true) (S : aG N ps scope)
  (len : ∀ vs H Q E, sp vs H Q E -> vs.length = ps.length)
  (hbody : ∀ (A : Around) (outer : List Env) (s : Shared) (H : Hp) (vs : List V) (Q : VK) (E : XK), aY k (A.deeper (envOfC qual scope s.heap.objs.size f cdv)) -> sp vs H Q E ->
   ∃ t, PSs (nT CX P w K mg base N qual scope f cdv A outer s H E) body t /\ t { nx := fun _ H' => Q .non H', rt := Q } (start N vs) H) :
  aL P w K mg base CX (k + 1) f (fnOf name qual params body scope dV kV doc pm an cdv ct) ps sp := by
 refine ⟨len, fun A outer s H args us vs Q E hr e0 hb r hsp => ?_⟩
 have hl := len _ _ _ _ hsp
 have KX : K.In s.heap := e0.mod.kin.keeps fun b o e => (e0.bs b o e).1
 have lim : s.heap.NoLimit := e0.mod.nolimit.keeps fun b o e => (e0.bs b o e).1
 have hkind : ∀ y ∈ ps.zip us, scope.names.lookup y.1 = some .local \/ (scope.names.lookup y.1 = some .cell /\ ((cellsFrom (s.heap.objs.size + 1) scope.names []).lookup y.1).isSome = true) := fun ⟨n, v⟩ hy => by
  rcases S.par n (of_mem_zip hy).1 with q | q
  ·exact .inl q
  ·exact .inr ⟨q, cellsFrom_some _ _ _ (.inl q)⟩
 refine codeAny_call_function hr.depth (KX _ _ lk) rfl S.co S.gen rfl (codeRec_of KX hcd) (hb _ _ _ _ ?_)
 refine wpAny_newFunctionEnv_cells S.kind hkind fun env he s1 x => ?_
 subst he
 refine ⟨lim.keeps x.toInCall.keep, codeAny_func ?_⟩
 obtain ⟨t, ht, hq⟩ := hbody A outer s H vs Q E (hr.deeper _) hsp
 have I : Inv (nT CX P w K mg base N qual scope f cdv A outer s H E) [] (start N vs) H s1 := wz S hr.hd e0 hl r x
 refine wpAny_mono (ht [] s1 (start N vs) H _ I hq) (fun fl s' hs => ?_) fun e s' hs => hs
 have fin : ∀ {σ' : St} {H' : Hp} {v : V} {u : Value}, Inv (nT CX P w K mg base N qual scope f cdv A outer s H E) [] σ' H' s' -> RelV v u -> Q v H' -> CE outer P w H s Q u s' :=
  fun {σ' H' v u} J rv q => ⟨v, H', J.os, J.bare, J.base, J.hok, rv, q⟩
 cases fl with
 | ret u =>
  obtain ⟨v, σ', H', J, rv, q⟩ := hs
  exact fin J rv q
 | next =>
  obtain ⟨σ', H', J, q⟩ := hs
  exact fin (v := V.non) (u := Value.none) J rfl q
 | brk =>
  obtain ⟨_, _, _, q⟩ := hs
  exact False.elim q
 | cont =>
  obtain ⟨_, _, _, q⟩ := hs
  exact False.elim q
section
variable {X : Cx} {x : Str} {p pos : Pos} {e : Expr} {es : List Expr} {t : TA} {id T : String} {r : List V -> Hp -> VK -> Prop}
def tCB (r : List V -> Hp -> VK -> Prop) (t : TA) : TE := fun σ H Q => t σ H fun vs H1 => r vs H1 Q
theorem bw (hc : jg X (.builtin id) r) (hg : Gl X x) (hm : X.mg x = none) (hv : bootBuiltins x = some (.builtin id)) (ha : PA X (e :: es) t) (hn : x ≠ "__name__" := by decide) (hdb : (x == ("__debug__" : Str)) = false := by decide)
  (he : starEach (e :: es) X.env = (false, eval e X.env) :: starEach es X.env := by rfl) (hpl : (backTo pos (starEach es X.env)).any (·.1) = false := by rfl) : PE X (.Call (.Name x p) (e :: es) [] pos) (tCB r t) := by
 intro pins s σ H Q I h
 refine wpAny_Call_Name_kw (u0 I hg hm hv ?_ hn hdb)
 exact PyProof.Rows.callWith_builtin1 (thn (ha pos pins s σ H _ I h) fun us s1 ⟨vs, H1, I1, r1, q1⟩ => hc pins s1 σ H1 vs us Q I1 r1 q1) he hpl
theorem dX (hc : jg X (.type T) r) (hg : Gl X x) (hm : X.mg x = none) (hv : bootBuiltins x = some (.type T)) (ha : PA X (e :: es) t) (hn : x ≠ "__name__" := by decide) (hdb : (x == ("__debug__" : Str)) = false := by decide)
  (he : starEach (e :: es) X.env = (false, eval e X.env) :: starEach es X.env := by rfl) (hpl : (backTo pos (starEach es X.env)).any (·.1) = false := by rfl) : PE X (.Call (.Name x p) (e :: es) [] pos) (tCB r t) := by
 intro pins s σ H Q I h
 refine wpAny_Call_Name_kw (u0 I hg hm hv ?_ hn hdb)
 exact PyProof.Rows.callWith_type1 (thn (ha pos pins s σ H _ I h) fun us s1 ⟨vs, H1, I1, r1, q1⟩ => hc pins s1 σ H1 vs us Q I1 r1 q1) he hpl
end
end L2
namespace HT
open PySem PyProof.Rows
section
open PySem.SeqAt
open PySem.AutoSeq1 (wpAny_loadPart')
open PySem.MeetsSeq PySem.MeetsSeq2 PySem.MeetsSeq3
end
section
variable {prog : Program} {w : World} {A : Around} {E : EV} {s : Shared}
def sIx (n d : Nat) : Option Int -> Nat
 | none => d
 | some v => if v < 0 then (v + (n : Int)).toNat else min v.toNat n
theorem sIx_none (n d : Nat) : sIx n d none = d := rfl
theorem sIx_nat (n d k : Nat) : sIx n d (some (k : Int)) = min k n := by
 show (if (k : Int) < 0 then ((k : Int) + (n : Int)).toNat else min (k : Int).toNat n) = min k n
 rw [if_neg Z1, Int.toNat_natCast]
end
end HT
namespace L2
open PySem PySem.Spec PyProof.Rows
abbrev TO := St -> Hp -> (Option Int -> Hp -> Prop) -> Prop
def PO (X : Cx) (e : Option Expr) (t : TO) : Prop :=
 ∀ (pins : OP) (s : Shared) (σ : St) (H : Hp) (Q : Option Int -> Hp -> Prop), Inv X pins σ H s -> t σ H Q ->
  wpAny (model X.prog X.w) X.A (evalPart e X.env) (fun u s' => ∃ o H', Inv X pins σ H' s' /\ IsPart u o /\ Q o H') X.xe s
def Jt : TO := fun _ H Q => Q none H
def Qc (t : TE) : TO := fun σ H Q => t σ H fun x H1 => ∃ i, x = .int i /\ Q (some i) H1
section
variable {X : Cx} {e : Expr} {te : TE} {lo hi : Option Expr} {tl th : TO} {pos p2 : Pos}
theorem jB : PO X none Jt := by
 intro pins s σ H Q I h
 rw [evalPart_none]
 exact wpAny_pure ⟨none, H, I, .none, h⟩
theorem eV (h : PE X e te) : PO X (some e) (Qc te) := by
 intro pins s σ H Q I hw
 rw [evalPart_some]
 refine thn (h pins s σ H _ I hw) fun u s1 ⟨x, H1, I1, r1, q1⟩ => ?_
 obtain ⟨i, rfl, q⟩ := q1
 obtain ⟨t, rfl⟩ := r1
 exact ⟨some i, H1, I1, .int i t, q⟩
def SlR (X : Cx) (r : V -> Option Int -> Option Int -> Hp -> VK -> Prop) : Prop :=
 ∀ (pins : OP) (s : Shared) (σ : St) (H : Hp) (x : V) (v vl vu : Value) (lo hi : Option Int) (sl : Addr) (Q : VK), Inv X pins σ H s -> RelV x v -> s.heap.IsSliceOf sl vl vu .none -> IsPart vl lo -> IsPart vu hi -> r x lo hi H Q ->
  ∃ T id, typeLookup (.type T) "__getitem__" = pure (some (.builtin id)) /\ s.TypeIs v T /\ wpAny (model X.prog X.w) X.A (getItem v (.ref sl)) (EP X pins σ Q) X.xe s
def tSl (r : V -> Option Int -> Option Int -> Hp -> VK -> Prop) (te : TE) (tl th : TO) : TE := fun σ H Q => te σ H fun x H1 => tl σ H1 fun l H2 => th σ H2 fun u H3 => r x l u H3 Q
theorem eU {r : V -> Option Int -> Option Int -> Hp -> VK -> Prop} (hr : SlR X r) (he : PE X e te) (hl : PO X lo tl) (hu : PO X hi th) : PE X (.Subscript e (.Slice lo hi none p2) pos) (tSl r te tl th) := by
 intro pins s σ H Q I h
 refine Subscript_ (thn (he pins s σ H _ I h) fun v s1 ⟨x, H1, I1, r1, q1⟩ => ?_)
 refine wpAny_Slice (thn (hl pins s1 σ H1 _ I1 q1) fun vl s2 ⟨l, H2, I2, pl, q2⟩ => thn (hu pins s2 σ H2 _ I2 q2) fun vu s3 ⟨u, H3, I3, pu, q3⟩ => ?_)
 rw [evalPart_none]
 refine wpAny_pure ?_
 have I4 : Inv X pins σ H3 { s3 with heap := s3.heap.push { cls := .type "slice", data := .fields #[vl, vu, .none] } } := I3.kept (t' := s3.toks) fun b ob q => Heap.get?_push_of_some _ q
 obtain ⟨T, id, hT, ht, hg⟩ := hr pins { s3 with heap := s3.heap.push { cls := .type "slice", data := .fields #[vl, vu, .none] } } σ H3 x v vl vu l u s3.heap.objs.size Q I4 r1 (Heap.IsSliceOf.new ..) pl pu q3
 show wpAny (model X.prog X.w) X.A (subscriptTail e (.Slice lo hi none p2) v (.ref s3.heap.objs.size)) (EP X pins σ Q) X.xe { s3 with heap := s3.heap.push { cls := .type "slice", data := .fields #[vl, vu, .none] } }
 exact tail_any (ops := [.ref s3.heap.objs.size, v]) ht hT hg (by with_unfolding_all rfl)
def fc (xs : List V) (lo hi : Option Int) : List V := (xs.drop (HT.sIx xs.length 0 lo)).take (HT.sIx xs.length xs.length hi - HT.sIx xs.length 0 lo)
theorem zz (xs : List V) (lo hi : Option Int) : (fc xs lo hi).length <= xs.length := by
 unfold fc
 rw [length_take, List.length_drop]
 omega
end
def ixN (n : Nat) (i : Int) : Option Nat := if 0 <= i then (if i < n then some i.toNat else none) else if -(n : Int) <= i then some (i + n).toNat else none
def atI {α : Type} (xs : List α) (i : Int) : Option α := (ixN xs.length i).bind fun j => xs[j]?
theorem JB {n : Nat} {i : Int} {j : Nat} (h : ixN n i = some j) : seqIndex? i n = some j /\ j < n /\ -(n : Int) <= i /\ i < n := by
 unfold ixN at h
 by_cases h0 : 0 <= i
 ·rw [if_pos h0] at h
  by_cases h1 : i < n
  ·rw [if_pos h1] at h
   have e : i.toNat = j := Option.some.inj h
   exact ⟨by rw [seqIndex_of h0 h1, e], Z1, Z1, h1⟩
  ·rw [if_neg h1] at h; cases h
 ·rw [if_neg h0] at h
  by_cases h1 : -(n : Int) <= i
  ·rw [if_pos h1] at h
   have e : (i + n).toNat = j := Option.some.inj h
   exact ⟨by rw [seqIndex_neg Z1 h1, e], Z1, h1, Z1⟩
  ·rw [if_neg h1] at h; cases h
theorem yc {α : Type} {xs : List α} {i : Int} {v : α} (h : atI xs i = some v) : ∃ j, seqIndex? i xs.length = some j /\ xs[j]? = some v /\ j < xs.length /\ -(xs.length : Int) <= i /\ i < xs.length := by
 unfold atI at h
 cases e : ixN xs.length i with
 | none => rw [e] at h; cases h
 | some j =>
  rw [e] at h
  obtain ⟨h1, h2, h3, h4⟩ := JB e
  exact ⟨j, h1, h, h2, h3, h4⟩
theorem aF {α : Type} {xs : List α} {j : Nat} {v : α} (h : xs[j]? = some v) : atI xs (j : Int) = some v := by
 have hj : j < xs.length := (List.getElem?_eq_some_iff.mp h).1
 have e : ixN xs.length (j : Int) = some j := by
  unfold ixN
  rw [if_pos Z1, if_pos Z1]; simp
 unfold atI; rw [e]; exact h
def Eb (b : Expr) : Prop := ∀ o i, subscripted b false o i = operate [o, i] (getItem o i)
def IxR (X : Cx) (r : R2) : Prop :=
 ∀ (value slice : Expr) (pins : OP) (s : Shared) (σ : St) (H : Hp) (x y : V) (v u : Value) (Q : VK), Inv X pins σ H s -> RelV x v -> RelV y u -> r x y H Q ->
  subscripted slice false v u = operate [v, u] (getItem v u) -> wpAny (model X.prog X.w) X.A (subscriptTail value slice v u) (EP X pins σ Q) X.xe s
def MtR (X : Cx) (id : String) (r : V -> List V -> Hp -> VK -> Prop) : Prop :=
 ∀ (pins : OP) (s : Shared) (σ : St) (H : Hp) (x : V) (xs : List V) (v : Value) (us : List Value) (Q : VK), Inv X pins σ H s -> RelV x v -> Vals xs us -> r x xs H Q ->
  wpAny (model X.prog X.w) X.A (call (.builtin id) (v :: us)) (EP X pins σ Q) X.xe s
section
variable {X : Cx} {a b : Expr} {ta tb : TE} {pos : Pos}
theorem bc {r : R2} (hr : IxR X r) (ha : PE X a ta) (hb : PE X b tb) (hs : Eb b := by exact fun _ _ => rfl) : PE X (.Subscript a b pos) (tOp r ta tb) := by
 intro pins s σ H Q I h
 exact Subscript_ (Mj ha hb I h fun v u s2 x y H2 I2 rx ry q => hr a b pins s2 σ H2 x y v u Q I2 rx ry q (hs _ _))
def Qa (K : Frag) : R2 := fun x y H Q => ∃ p xs i v, x = .ref p /\ y = .int i /\ SqL K H p xs /\ atI xs i = some v /\ Q v H
def Ox (K : Frag) : R2 := fun x y H Q => ∃ p xs i v, x = .ref p /\ y = .int i /\ SqT K H p xs /\ atI xs i = some v /\ Q v H
def Ra : R2 := fun x y H Q => ∃ z i c, x = .str z /\ y = .int i /\ z.length <= sizeLine /\ atI z.cps.toList i = some c /\ Q (.str ⟨#[c]⟩) H
theorem bI : IxR X (Qa X.K) := by
 intro value slice pins s σ H x y v u Q I rx ry h hs
 obtain ⟨p, xs, i, z, rfl, rfl, hq, he, q⟩ := h
 cases rx
 obtain ⟨t, rfl⟩ := ry
 obtain ⟨its, r, pl, hz⟩ := I.list hq
 obtain ⟨j, h1, h2, h3, h4, h5⟩ := yc he
 obtain ⟨w, ew, rw'⟩ := r.get h2
 have hl := r.length
 have hn := yO
 have fin : EP X pins σ Q w s := ⟨z, H, I, rw', q⟩
 by_cases h0 : 0 <= i
 ·have hj : i.toNat = j := by
   rw [seqIndex_of h0 h5] at h1
   exact Option.some.inj h1
  exact item_listR pl.isList h0 Z1 (by rw [hj]; simpa using ew) fin hs
 ·have hj : (i + (its.toArray.size : Int)).toNat = j := by
   rw [seqIndex_neg Z1 h4] at h1
   rw [size_toArray, <- hl]
   exact Option.some.inj h1
  exact subscriptTail_builtinR (x := w) pl.isList.typeIs slot_list_getitem.lookup
   (wpAny_getItem_list_neg (Q := fun r s' => r = w /\ EP X pins σ Q r s') pl.isList Z1 (by rw [size_toArray] <;> omega) Z1 (by rw [hj]; simpa using ew) ⟨rfl, fin⟩) hs
theorem bU : IxR X (Ox X.K) := by
 intro value slice pins s σ H x y v u Q I rx ry h hs
 obtain ⟨p, xs, i, z, rfl, rfl, hq, he, q⟩ := h
 cases rx
 obtain ⟨t, rfl⟩ := ry
 obtain ⟨its, r, pl, hz⟩ := I.tuple hq
 obtain ⟨j, h1, h2, h3, h4, h5⟩ := yc he
 obtain ⟨w, ew, rw'⟩ := r.get h2
 have hl := r.length
 have hn := yO
 have fin : EP X pins σ Q w s := ⟨z, H, I, rw', q⟩
 exact subscriptTail_builtinR (x := w) pl.typeIs slot_tuple_getitem.lookup
  (getItem_tuple (j := j) (Q := fun r s' => r = w /\ EP X pins σ Q r s') pl Z1 Z1 (by rw [size_toArray, <- hl]; exact h1) (by simpa using ew) ⟨rfl, fin⟩) hs
theorem IK : IxR X Ra := by
 intro value slice pins s σ H x y v u Q I rx ry h hs
 obtain ⟨z, i, c, rfl, rfl, hz, he, q⟩ := h
 obtain ⟨t, rfl⟩ := rx
 obtain ⟨t', rfl⟩ := ry
 obtain ⟨j, h1, h2, h3, h4, h5⟩ := yc he
 have hl : z.cps.toList.length = z.length := by simp [Str.length]
 rw [hl] at h1 h4 h5
 have hn := yO
 exact tail_any (typeIs_str s z t) slot_str_getitem.lookup (getItem_str (c := c) (by
  have e1 : decide (i < -(2 ^ 63 : Int)) = false := decide_eq_false Z1
  have e2 : decide (i >= 2 ^ 63) = false := decide_eq_false Z1
  rw [e1, e2, Bool.or_false]) (by rw [h1]; simpa using h2) ⟨.str ⟨#[c]⟩, H, I.tok _, ⟨_, rfl⟩, q⟩) hs
theorem zc (lo hi : Option Int) (n : Nat) : (sliceBounds lo hi none n).1 = ((HT.sIx n 0 lo : Nat) : Int) /\ (sliceBounds lo hi none n).2.1 = ((HT.sIx n n hi : Nat) : Int) /\ (sliceBounds lo hi none n).2.2 = 1 := by
 refine ⟨?_, ?_, rfl⟩
 ·cases lo with
  | none => simp [sliceBounds, HT.sIx]
  | some i =>
   simp only [sliceBounds, HT.sIx, Option.getD_none, show (1 : Int) > 0 by decide, if_true]
   by_cases h : i < 0
   ·simp only [h, if_true] <;> omega
   ·simp only [h, if_false] <;> omega
 ·cases hi with
  | none => simp [sliceBounds, HT.sIx]
  | some i =>
   simp only [sliceBounds, HT.sIx, Option.getD_none, show (1 : Int) > 0 by decide, if_true]
   by_cases h : i < 0
   ·simp only [h, if_true] <;> omega
   ·simp only [h, if_false] <;> omega
theorem vN (its : List Value) (lo hi : Option Int) : slicePick its.toArray lo hi none = ((its.drop (HT.sIx its.length 0 lo)).take (HT.sIx its.length its.length hi - HT.sIx its.length 0 lo)).toArray := by
 obtain ⟨h1, h2, h3⟩ := zc lo hi its.toArray.size
 unfold slicePick
 rw [h1, h2, h3]
 simp only [sliceRange_one, pick_run, size_toArray] <;> rfl
def Qt (K : Frag) : V -> Option Int -> Option Int -> Hp -> VK -> Prop := fun x lo hi H Q => ∃ a xs, x = .ref a /\ SqL K H a xs /\ ∀ p, H p = none -> Q (.ref p) (upd H p (.lst (fc xs lo hi)))
theorem jU : SlR X (Qt X.K) := by
 intro pins s σ H x v vl vu lo hi sl Q I rx hs pl pu h
 obtain ⟨a, xs, rfl, hx, q⟩ := h
 cases rx
 obtain ⟨its, r, ht, hz⟩ := I.list hx
 have hlen := r.length
 refine ⟨"list", _, slot_list_getitem.lookup, ht.isList.typeIs, ?_⟩
 refine wpAny_getItem_list_slice ht.isList hs pl pu .none Z2 ?_ (by rw [size_toArray] <;> omega)
 rw [vN, <- hlen]
 refine ⟨.ref s.heap.objs.size, _, I.laid (t' := s.toks) (o := .lst (fc xs lo hi)) (fun b ob q => Heap.get?_push_of_some _ q) (le_refl _) ?_, rfl, q _ (I.hok.fresh (le_refl _))⟩
 exact ⟨le_trans (zz xs lo hi) hz, _, 0, (r.drop (HT.sIx xs.length 0 lo)).take (HT.sIx xs.length xs.length hi - HT.sIx xs.length 0 lo), Heap.get?_push_size _ rfl⟩
def dM : V -> Bool
 | .non => true
 | .bl _ => true
 | .int _ => true
 | .str _ => true
 | _ => false
def eqV : V -> V -> Bool
 | .non, .non => true
 | .bl a, .bl b => a == b
 | .bl a, .int b => (if a then 1 else 0) == b
 | .int a, .bl b => a == (if b then 1 else 0)
 | .int a, .int b => a == b
 | .str a, .str b => a == b
 | _, _ => false
theorem Mi {A : Around} {s : Shared} {y x : V} {u v : Value} (ry : RelV y u) (rx : RelV x v) (fy : dM y = true) (fx : dM x = true) : SeqAt.EqAt A s u v (eqV y x) := by
 cases y with
 | non =>
  cases ry
  cases x with
  | non => cases rx; exact SeqAt.EqAt.same _
  | bl b => cases rx; exact SeqAt.EqAt.none_bool b
  | int b => obtain ⟨t, rfl⟩ := rx; exact SeqAt.EqAt.none_int b t
  | str b => obtain ⟨t, rfl⟩ := rx; exact SeqAt.EqAt.none_str b t
  | _ => exact absurd (show false = true from fx) Bool.false_ne_true
 | bl a =>
  cases ry
  cases x with
  | non => cases rx; exact SeqAt.EqAt.bool_none a
  | bl b => cases rx; exact SeqAt.EqAt.bool_bool a b
  | int b => obtain ⟨t, rfl⟩ := rx; exact SeqAt.EqAt.bool_int a b t
  | str b => obtain ⟨t, rfl⟩ := rx; exact SeqAt.EqAt.bool_str a b t
  | _ => exact absurd (show false = true from fx) Bool.false_ne_true
 | int a =>
  obtain ⟨t', rfl⟩ := ry
  cases x with
  | non => cases rx; exact SeqAt.EqAt.int_none a t'
  | bl b => cases rx; exact SeqAt.EqAt.int_bool a t' b
  | int b => obtain ⟨t, rfl⟩ := rx; exact SeqAt.EqAt.int_int a t' b t
  | str b => obtain ⟨t, rfl⟩ := rx; exact SeqAt.EqAt.int_str a t' b t
  | _ => exact absurd (show false = true from fx) Bool.false_ne_true
 | str a =>
  obtain ⟨t', rfl⟩ := ry
  cases x with
  | non => cases rx; exact SeqAt.EqAt.str_none a t'
  | bl b => cases rx; exact SeqAt.EqAt.str_bool a t' b
  | int b => obtain ⟨t, rfl⟩ := rx; exact SeqAt.EqAt.str_int a t' b t
  | str b => obtain ⟨t, rfl⟩ := rx; exact SeqAt.EqAt.str_str a t' b t
  | _ => exact absurd (show false = true from fx) Bool.false_ne_true
 | _ => exact absurd (show false = true from fy) Bool.false_ne_true
def eqU (x : V) (u : Value) : Bool := match u with
 | .none => eqV .non x
 | .bool b => eqV (.bl b) x
 | .int i _ => eqV (.int i) x
 | .str z _ => eqV (.str z) x
 | _ => false
theorem Hi {x y : V} {u : Value} (r : RelV y u) (f : dM y = true) : eqU x u = eqV y x := by
 cases y with
 | non => cases r; rfl
 | bl b => cases r; rfl
 | int i => obtain ⟨t, rfl⟩ := r; rfl
 | str z => obtain ⟨t, rfl⟩ := r; rfl
 | _ => exact absurd (show false = true from f) Bool.false_ne_true
theorem qw {x : V} : ∀ {xs : List V} {us : List Value}, Vals xs us -> xs.all dM = true -> us.any (eqU x) = xs.any fun y => eqV y x
 | _, _, .nil, _ => rfl
 | y :: xs, u :: us, .cons r t, f => by
  rw [List.all_cons, and_eq_true] at f
  rw [any_cons, any_cons, Hi r f.1, qw t f.2]
theorem oJ {A : Around} {s : Shared} {x : V} {v : Value} (rx : RelV x v) (fx : dM x = true) : ∀ {xs : List V} {us : List Value}, Vals xs us -> xs.all dM = true -> ∀ u ∈ us, SeqAt.EqAt A s u v (eqU x u)
 | _, _, .nil, _ => fun u hu => by cases hu
 | y :: xs, u :: us, .cons r t, f => fun u' hu => by
  rw [List.all_cons, and_eq_true] at f
  rcases mem_cons.mp hu with rfl | hu
  ·rw [Hi r f.1]; exact Mi r rx f.1 fx
  ·exact oJ rx fx t f.2 u' hu
def inV (x : V) (xs : List V) : Bool := xs.any fun y => eqV y x
def rIn (K : Frag) (neg : Bool) : R2 := fun x y H Q => ∃ p xs, y = .ref p /\ (SqL K H p xs \/ SqT K H p xs) /\ dM x = true /\ xs.all dM = true /\ Q (.bl (if neg then !inV x xs else inV x xs)) H
theorem o7 : OpR X (compareOp .In) (rIn X.K false) := by
 intro pins s σ H x y v u Q I rx ry h
 obtain ⟨p, xs, rfl, hq, fx, fs, q⟩ := h
 cases ry
 rcases hq with hq | hq
 ·obtain ⟨its, r, pl, hz⟩ := I.list hq
  refine SeqAt.in_listAt (eqU x) pl.isList (fun w hw => oJ rx fx r fs w (by simpa using hw)) ⟨.bl _, H, I, rfl, ?_⟩
  rw [show its.toArray.any (eqU x) = its.any (eqU x) by simp, qw r fs]
  exact q
 ·obtain ⟨its, r, pl, hz⟩ := I.tuple hq
  refine SeqAt.in_tupleAt (eqU x) pl (fun w hw => oJ rx fx r fs w (by simpa using hw)) ⟨.bl _, H, I, rfl, ?_⟩
  rw [show its.toArray.any (eqU x) = its.any (eqU x) by simp, qw r fs]
  exact q
theorem cP : OpR X (compareOp .NotIn) (rIn X.K true) := by
 intro pins s σ H x y v u Q I rx ry h
 obtain ⟨p, xs, rfl, hq, fx, fs, q⟩ := h
 cases ry
 rcases hq with hq | hq
 ·obtain ⟨its, r, pl, hz⟩ := I.list hq
  refine SeqAt.notIn_listAt (eqU x) pl.isList (fun w hw => oJ rx fx r fs w (by simpa using hw)) ⟨.bl _, H, I, rfl, ?_⟩
  rw [show its.toArray.any (eqU x) = its.any (eqU x) by simp, qw r fs]
  exact q
 ·obtain ⟨its, r, pl, hz⟩ := I.tuple hq
  refine SeqAt.notIn_tupleAt (eqU x) pl (fun w hw => oJ rx fx r fs w (by simpa using hw)) ⟨.bl _, H, I, rfl, ?_⟩
  rw [show its.toArray.any (eqU x) = its.any (eqU x) by simp, qw r fs]
  exact q
theorem bz : jg X (.builtin "len") (fun xs H Q => ∃ p ys, xs = [.ref p] /\ (SqL X.K H p ys \/ SqT X.K H p ys) /\ Q (.int ys.length) H) := by
 intro pins s σ H xs us Q I r h
 obtain ⟨p, ys, rfl, hq, q⟩ := h
 obtain ⟨u, rfl, rx⟩ := vals1 r
 cases rx
 have hn := yO
 rcases hq with hq | hq
 ·obtain ⟨its, r', pl, hz⟩ := I.list hq
  have hlen := r'.length
  exact Calls.call_len_list pl.isList (by simp only [size_toArray] <;> omega) ⟨.int ys.length, H, I.tok _, ⟨s.toks + 1, by rw [size_toArray, hlen]⟩, q⟩
 ·obtain ⟨its, r', pl, hz⟩ := I.tuple hq
  have hlen := r'.length
  exact len_tuple pl (by simp only [size_toArray] <;> omega) ⟨.int ys.length, H, I.tok _, ⟨s.toks + 1, by rw [size_toArray, hlen]⟩, q⟩
theorem fX : jg X (.type "list") (fun xs H Q => ∃ p ys, xs = [.ref p] /\ (SqL X.K H p ys \/ SqT X.K H p ys) /\ ∀ l, H l = none -> Q (.ref l) (upd H l (.lst ys))) := by
 intro pins s σ H xs us Q I r h
 obtain ⟨p, ys, rfl, hq, q⟩ := h
 obtain ⟨u, rfl, rx⟩ := vals1 r
 cases rx
 have fin : ∀ (its : List Value), Vals ys its -> ys.length <= sizeLine -> ∀ (h' : Heap) (c' : Nat), (∀ b o', s.heap.get? b = some o' -> h'.get? b = some o') ->
   h'.get? s.heap.objs.size = some { cls := .type "list", dict := none, data := .seq its.toArray c', slots := #[] } -> EP X pins σ Q (.ref s.heap.objs.size) { s with heap := h' } := fun its r' hz h' c' kp e =>
  ⟨.ref s.heap.objs.size, _, I.laid (t' := s.toks) kp (le_refl _) (show bY X.prog X.w _ h' _ (.lst ys) from ⟨hz, its, c', r', e⟩), rfl, q _ (I.hok.fresh (le_refl _))⟩
 rcases hq with hq | hq
 ·obtain ⟨its, r', pl, hz⟩ := I.list hq
  have hlen := r'.length
  obtain ⟨o, ho, hc, n, hd⟩ := pl.isList
  exact call_list_seq p (.inl rfl) ho hc hd (fun h' c' kp e => fin its r' hz h' c' kp e) (by simp only [size_toArray] <;> omega)
 ·obtain ⟨its, r', pl, hz⟩ := I.tuple hq
  have hlen := r'.length
  obtain ⟨o, ho, hc, n, hd⟩ := pl
  exact call_list_seq p (.inr rfl) ho hc hd (fun h' c' kp e => fin its r' hz h' c' kp e) (by simp only [size_toArray] <;> omega)
theorem vX : jg X (.type "tuple") (fun xs H Q => ∃ p ys, xs = [.ref p] /\ ((SqL X.K H p ys /\ ∀ l, H l = none -> Q (.ref l) (upd H l (.tup ys))) \/ (SqT X.K H p ys /\ Q (.ref p) H))) := by
 intro pins s σ H xs us Q I r h
 obtain ⟨p, ys, rfl, h⟩ := h
 obtain ⟨u, rfl, rx⟩ := vals1 r
 cases rx
 rcases h with ⟨hq, q⟩ | ⟨hq, q⟩
 ·obtain ⟨its, r', pl, hz⟩ := I.list hq
  have hlen := r'.length
  refine call_tuple_list pl.isList (fun h' kp => ?_) (by simp only [size_toArray] <;> omega)
  have I1 : Inv X pins σ H { s with heap := h' } := I.kept (t' := s.toks) kp
  have I2 : Inv X pins σ (upd H h'.objs.size (.tup ys)) { s with heap := h'.push { cls := .type "tuple", data := .seq its.toArray } } :=
   I1.laid (t' := s.toks) (fun b o e => Heap.get?_push_of_some _ e) (le_refl _) (show bY X.prog X.w _ _ _ (.tup ys) from ⟨hz, its, r', IsTup.new _ _⟩)
  exact ⟨.ref h'.objs.size, _, I2, rfl, q _ (I1.hok.fresh (le_refl _))⟩
 ·obtain ⟨its, r', pl, hz⟩ := I.tuple hq
  exact call_tuple_same pl ⟨.ref p, H, I, rfl, q⟩
def tyV (K : Frag) (T : String) (x : V) (H : Hp) : Prop := match x with
 | .str _ => T = "str"
 | .int _ => T = "int"
 | .ref p => (T = "list" /\ ∃ xs, SqL K H p xs) \/ (T = "tuple" /\ ∃ o, K.lookup p = some o /\ o.cls = .type "tuple" /\ o.dict = none) \/
   (T = "dict" /\ ((∃ kvs, H p = some (.dK kvs)) \/ ∃ kvs, H p = some (.dT kvs))) \/ (T = "set" /\ ∃ S n, H p = some (.set S n))
 | _ => False
theorem Hl {pins : OP} {σ : St} {H : Hp} {s : Shared} {T : String} {x : V} {v : Value} (I : Inv X pins σ H s) (r : RelV x v) (ty : tyV X.K T x H) :
  s.TypeIs v T /\ ∀ a, v = .ref a -> ∃ ob, s.heap.get? a = some ob /\ ob.dict = none := by
 cases x with
 | str z =>
  obtain ⟨t, rfl⟩ := r
  cases (show T = "str" from ty)
  exact ⟨typeIs_str s z t, fun _ e => nomatch e⟩
 | int i =>
  obtain ⟨t, rfl⟩ := r
  cases (show T = "int" from ty)
  exact ⟨typeIs_int s i t, fun _ e => nomatch e⟩
 | ref p =>
  cases r
  rcases ty with ⟨rfl, xs, hq⟩ | ⟨rfl, o, hk, hc, hd⟩ | ⟨rfl, hk⟩ | ⟨rfl, S, n, hk⟩
  ·obtain ⟨its, _, pl, _⟩ := I.list hq
   refine ⟨pl.isList.typeIs, fun a e => ?_⟩
   cases e
   obtain ⟨o, n, e, c, hd, _⟩ := pl
   exact ⟨o, e, hd⟩
  ·refine ⟨⟨o, I.kIn p o hk, hc⟩, fun a e => ?_⟩
   cases e
   exact ⟨o, I.kIn _ o hk, hd⟩
  ·have z : ∃ o, s.heap.get? p = some o /\ o.ExactDict := by
    rcases hk with ⟨kvs, hk⟩ | ⟨kvs, hk⟩
    ·obtain ⟨_, _, _, _, o, _, _, e, ex, _⟩ := I.hok p _ hk
     exact ⟨o, e, ex⟩
    ·obtain ⟨_, _, _, _, o, _, _, e, ex, _⟩ := I.hok p _ hk
     exact ⟨o, e, ex⟩
   obtain ⟨o, e, ex⟩ := z
   refine ⟨⟨o, e, ex.1⟩, fun a e2 => ?_⟩
   cases e2
   exact ⟨o, e, ex.2.1⟩
  ·obtain ⟨o, _, _, _, e, ex, _⟩ := I.hok p _ hk
   refine ⟨⟨o, e, ex.1⟩, fun a e2 => ?_⟩
   cases e2
   exact ⟨o, e, ex.2.1⟩
 | _ => exact False.elim ty
def QV (K : Frag) (T : String) (r : V -> List V -> Hp -> VK -> Prop) (to : TE) : TE := fun σ H Q => to σ H fun x H1 => tyV K T x H1 /\ r x [] H1 Q
def tBM (K : Frag) (T : String) (r : V -> List V -> Hp -> VK -> Prop) (to : TE) (t : TA) : TE := fun σ H Q => to σ H fun x H1 => tyV K T x H1 /\ t σ H1 fun xs H2 => r x xs H2 Q
variable {o e : Expr} {es : List Expr} {to : TE} {t : TA} {name : Str} {apos cpos : Pos} {T id : String} {r : V -> List V -> Hp -> VK -> Prop}
theorem Gv (pa : PlainAttrs T) (slot : Slot T name id) (hty : typeOf (.builtin id) = pure (.type "method_descriptor")) (hm : MtR X id r) (ho : PE X o to)
  (hbase : attributeBase o name X.env (eval o X.env) = eval o X.env := by rfl) (hline : (apos.endLine == cpos.line) = true := by rfl) : PE X (.Call (.Attribute o name apos) [] [] cpos) (QV X.K T r to) := by
 intro pins s σ H Q I h
 refine wpAny_Call_method0_late hbase hline (thn (ho pins s σ H _ I h) fun v s1 ⟨x, H1, I1, r1, ty, q1⟩ => ?_)
 obtain ⟨h1, h2⟩ := Hl I1 r1 ty
 exact ⟨T, id, pa, slot, hty, h1, h2, Calls.callWith_builtin rfl (PySem.evalArgs_none (hm pins s1 σ H1 x [] v [] Q I1 r1 .nil q1))⟩
theorem cI (pa : PlainAttrs T) (slot : Slot T name id) (hty : typeOf (.builtin id) = pure (.type "method_descriptor")) (hm : MtR X id r) (ho : PE X o to) (ha : PA X (e :: es) t)
  (hbase : attributeBase o name X.env (eval o X.env) = eval o X.env := by rfl)
  (hfew : ((backTo cpos (starEach (e :: es) X.env)).all (fun x => !x.1) && (backToKw cpos (keywordEach [] X.env)).all (fun x => x.1.isSome)
   && decide ((e :: es).length + ([] : List Keyword).length + (if ([] : List Keyword).isEmpty then 0 else 1) < 30)) = true := by rfl)
  (hline : (apos.endLine == cpos.line) = true := by rfl) (hs : starEach (e :: es) X.env = (false, eval e X.env) :: starEach es X.env := by rfl) (hplain : (backTo cpos (starEach es X.env)).any (·.1) = false := by rfl) :
  PE X (.Call (.Attribute o name apos) (e :: es) [] cpos) (tBM X.K T r to t) := by
 intro pins s σ H Q I h
 refine wpAny_Call_method_late hbase hfew hline rfl (thn (ho pins s σ H _ I h) fun v s1 ⟨x, H1, I1, r1, ty, q1⟩ => ?_)
 obtain ⟨h1, h2⟩ := Hl I1 r1 ty
 refine ⟨T, id, pa, slot, hty, h1, h2, ?_⟩
 have hA := ha cpos pins s1 σ H1 _ I1 q1
 rw [hs] at hA ⊢
 refine Calls.callWith_builtin (by show (false || (backTo cpos (starEach es X.env)).any (·.1)) = false; rw [hplain] <;> rfl) (Calls.evalArgs_plain ?_)
 exact thn hA fun us s2 ⟨vs, H2, I2, r2, q2⟩ => hm pins s2 σ H2 x vs v us Q I2 r1 r2 q2
end
def MtM (X : Cx) (id : String) (r : V -> List V -> Hp -> VK -> Prop) : Prop :=
 ∀ (pins : OP) (s : Shared) (σ : St) (H : Hp) (x : V) (xs : List V) (v : Value) (us : List Value) (Q : VK), Inv X pins σ H s -> RelV x v -> Vals xs us -> r x xs H Q ->
  wpAny (model X.prog X.w) X.A (call (.builtin id) (v :: us)) (EP X pins σ Q) X.xe s
theorem Vals.one : ∀ {x : V} {us : List Value}, Vals [x] us -> ∃ u, us = [u] /\ RelV x u
 | _, _, .cons r .nil => ⟨_, rfl, r⟩
theorem Vals.zero : ∀ {us : List Value}, Vals [] us -> us = []
 | _, .nil => rfl
theorem Vals.dropLast {xs : List V} {us : List Value} (h : Vals xs us) : Vals xs.dropLast us.dropLast := by
 induction h with
 | nil => exact .nil
 | cons r t ih =>
  cases t with
  | nil => exact .nil
  | cons q t' => exact .cons r ih
theorem Vals.reverse {xs : List V} {us : List Value} (h : Vals xs us) : Vals xs.reverse us.reverse := by
 induction h with
 | nil => exact .nil
 | cons r t ih => rw [List.reverse_cons, List.reverse_cons]; exact Vals.append ih (.cons r .nil)
theorem Cy {α : Type} (l : List α) : l.eraseIdx (l.length - 1) = l.dropLast := by
 induction l with
 | nil => rfl
 | cons a r ih =>
  cases r with
  | nil => rfl
  | cons b r =>
   have e : (a :: b :: r).length - 1 = ((b :: r).length - 1) + 1 := by
    have h1 : (a :: b :: r).length = r.length + 2 := rfl
    have h2 : (b :: r).length = r.length + 1 := rfl
    omega
   rw [e, List.eraseIdx_cons_succ, ih]
   all_goals rfl
section
variable {X : Cx} {pins : OP} {σ : St} {H : Hp} {s : Shared} {l b : Addr} {xs ys zs : List V}
theorem Inv.lset {its its' : List Value} {n : Nat} {f : Array Value -> Array Value} {t' : Nat} (I : Inv X pins σ H s) (hH : H l = some (.lst xs))
  (e : s.heap.get? l = some { cls := .type "list", data := .seq its.toArray n }) (hf : f its.toArray = its'.toArray) (hv : Vals ys its') (hz : ys.length <= sizeLine) :
  Inv X pins σ (upd H l (.lst ys)) { s with heap := s.heap.update l (Obj.mapSeq f), toks := t' } := by
 have q := PySem.IsL.update e f
 rw [hf] at q
 refine I.write (x := l) (e := l) (by rw [hH]; exact trivial) (.inl rfl) (fun b' u hb hu => (Heap.get?_update_other s.heap (Obj.mapSeq f) (Ne.symm hb)).trans hu) ⟨_, q⟩ ?_
 exact ⟨hz, its', _, hv, q⟩
theorem Inv.lnew {its : List Value} {t' : Nat} (I : Inv X pins σ H s) (hv : Vals ys its) (hz : ys.length <= sizeLine) :
  Inv X pins σ (upd H s.heap.objs.size (.lst ys)) { s with heap := s.heap.push { cls := .type "list", data := .seq its.toArray }, toks := t' } :=
 I.laid (fun _ _ q => Heap.get?_push_of_some _ q) (le_refl _) ⟨hz, its, 0, hv, Heap.get?_push_size _ rfl⟩
theorem Inv.fresh (I : Inv X pins σ H s) : H s.heap.objs.size = none := I.hok.fresh (le_refl _)
theorem Inv.lstM (I : Inv X pins σ H s) (hH : H l = some (.lst xs)) : xs.length <= sizeLine /\ ∃ (its : List Value) (n : Nat), Vals xs its /\ xs.length = its.length /\ s.heap.get? l = some { cls := .type "list", data := .seq its.toArray n } := by
 obtain ⟨z, its, n, r, e⟩ := I.hok l _ hH
 exact ⟨z, its, n, r, r.length, e⟩
theorem GF {n : Nat} (h : n <= sizeLine) : Builtin.List.listTooLong n = false := by
 unfold Builtin.List.listTooLong
 exact decide_eq_false Z1
end
section
variable {X : Cx}
def Du : V -> List V -> Hp -> VK -> Prop := fun x vs H Q => ∃ l xs y, x = .ref l /\ vs = [y] /\ H l = some (.lst xs) /\ xs.length < sizeLine /\ Q .non (upd H l (.lst (xs ++ [y])))
theorem cF : MtM X "list.append" Du := by
 intro pins s σ H x vs v us Q I rx rv h
 obtain ⟨l, xs, y, rfl, rfl, hH, hz, q⟩ := h
 cases rx
 obtain ⟨u, rfl, ru⟩ := rv.one
 obtain ⟨z, its, n, r, hl, e⟩ := I.lstM hH
 refine call_meets F.slot_list_append ⟨_, e, rfl⟩ F.entry_list_append (F.args_list_append_2 _ _) (PySem.list_append l its.toArray n u (by rw [size_toArray]; omega)) ⟨e, ?_⟩
 refine ⟨.non, _, I.lset (its' := its ++ [u]) hH e Z2 (r.append (.cons ru .nil)) ?_, rfl, q⟩
 rw [length_append, List.length_singleton]
 omega
def J9 : V -> List V -> Hp -> VK -> Prop := fun x vs H Q => ∃ l b xs zs, x = .ref l /\ vs = [.ref b] /\ H l = some (.lst xs) /\ H b = some (.lst zs) /\ xs.length + zs.length <= sizeLine /\ Q .non (upd H l (.lst (xs ++ zs)))
theorem wZ : MtM X "list.extend" J9 := by
 intro pins s σ H x vs v us Q I rx rv h
 obtain ⟨l, b, xs, zs, rfl, rfl, hH, hB, hz, q⟩ := h
 cases rx
 obtain ⟨u, rfl, ru⟩ := rv.one
 cases ru
 obtain ⟨z, its, n, r, hl, e⟩ := I.lstM hH
 obtain ⟨z2, its2, n2, r2, hl2, e2⟩ := I.lstM hB
 have hsz : its.toArray.size + its2.toArray.size <= sizeLine := by rw [size_toArray, size_toArray]; omega
 have hlong : ¬ (!its.toArray.isEmpty && Builtin.List.listTooLong (its.toArray.size + its2.toArray.size)) = true := by
  rw [GF hsz, Bool.and_false]
  exact Bool.false_ne_true
 refine call_meets F.slot_list_extend ⟨_, e, rfl⟩ F.entry_list_extend (F.args_list_extend_2 _ _)
  (AutoSeq1.list_extend_list_list_0 l its.toArray n b its2.toArray n2 hlong (by rw [size_toArray]; omega) Z1) ⟨e, e2, ?_⟩
 refine ⟨.non, _, I.lset (its' := its ++ its2) hH e Z2 (r.append r2) ?_, rfl, q⟩
 rw [length_append]
 omega
def Rg : V -> List V -> Hp -> VK -> Prop := fun x vs H Q => ∃ l xs y, x = .ref l /\ vs = [] /\ H l = some (.lst xs) /\ xs[xs.length - 1]? = some y /\ Q y (upd H l (.lst xs.dropLast))
theorem Mz : MtM X "list.pop" Rg := by
 intro pins s σ H x vs v us Q I rx rv h
 obtain ⟨l, xs, y, rfl, rfl, hH, hy, q⟩ := h
 cases rx
 have hus := rv.zero
 subst hus
 obtain ⟨z, its, n, r, hl, e⟩ := I.lstM hH
 obtain ⟨u, hu, ru⟩ := r.get hy
 have hy' : its.toArray[its.toArray.size - 1]? = some u := by
  show its.toArray[its.length - 1]? = some u
  rw [<- Array.getElem?_toList, <- hl]
  exact hu
 refine call_meets F.slot_list_pop ⟨_, e, rfl⟩ F.entry_list_pop (F.args_list_pop_1 _) (MeetsSeq.list_pop_last l its.toArray n u hy' (by rw [size_toArray]; omega)) ⟨e, ?_⟩
 refine ⟨y, _, I.lset (its' := its.dropLast) hH e ?_ r.dropLast ?_, ru, q⟩
 ·show its.toArray.eraseIdxIfInBounds (its.toArray.size - 1) = its.dropLast.toArray
  rw [size_toArray, List.eraseIdxIfInBounds_toArray, Cy]
 ·rw [List.length_dropLast]
  omega
def Hq : V -> List V -> Hp -> VK -> Prop := fun x vs H Q => ∃ l xs, x = .ref l /\ vs = [] /\ H l = some (.lst xs) /\ Q .non (upd H l (.lst xs.reverse))
theorem Ca : MtM X "list.reverse" Hq := by
 intro pins s σ H x vs v us Q I rx rv h
 obtain ⟨l, xs, rfl, rfl, hH, q⟩ := h
 cases rx
 have hus := rv.zero
 subst hus
 obtain ⟨z, its, n, r, hl, e⟩ := I.lstM hH
 refine call_meets F.slot_list_reverse ⟨_, e, rfl⟩ F.entry_list_reverse (F.args_list_reverse_1 _) (AutoSeq1.list_reverse_list_0 l its.toArray n (by rw [size_toArray]; omega)) ⟨e, ?_⟩
 refine ⟨.non, _, I.lset (its' := its.reverse) hH e Z2 r.reverse ?_, rfl, q⟩
 rw [List.length_reverse]
 omega
def QM : R2 := fun x y H Q => ∃ l b xs zs, x = .ref l /\ y = .ref b /\ H l = some (.lst xs) /\ H b = some (.lst zs) /\ xs.length + zs.length <= sizeLine /\ ∀ p, H p = none -> Q (.ref p) (upd H p (.lst (xs ++ zs)))
theorem qX : OpR X (binaryOp .Add) QM := by
 intro pins s σ H x y v u Q I rx ry h
 obtain ⟨l, b, xs, zs, rfl, rfl, hH, hB, hz, q⟩ := h
 cases rx
 cases ry
 obtain ⟨z, its, n, r, hl, e⟩ := I.lstM hH
 obtain ⟨z2, its2, n2, r2, hl2, e2⟩ := I.lstM hB
 refine PySem.P.add_list e e2 ?_ (by rw [size_toArray, size_toArray]; omega)
 have ea : its.toArray ++ its2.toArray = (its ++ its2).toArray := by simp
 rw [ea]
 exact ⟨.ref _, _, I.lnew (t' := s.toks) (r.append r2) (by rw [length_append]; omega), rfl, q _ I.fresh⟩
end
section
variable {prog : Program} {w : World} {A : Around} {E : EV} {s : Shared}
end
section
variable {X : Cx}
end
end L2
namespace Att
open PySem PySem.W PySem.Calls PyProof.Rows
theorem sV {P : Params} {h : Heap} : ∀ (ns : List Int) (vs : List Value), WellAll P h vs (ns.map WData.int) -> IntsAre vs ns := by
 intro ns
 induction ns with
 | nil =>
  intro vs w
  rw [map_nil] at w
  cases w
  exact .nil
 | cons n ns ih =>
  intro vs w
  rw [map_cons] at w
  cases w with
  | cons a b =>
   cases a
   exact .cons _ _ (ih _ b)
theorem Fx {l : OpenLaw} {n : Nat} (hn : l.most = some n) {P : Params} {h : Heap} {args : List WData} {vals : List Value}
  (hpre : l.row.toRowW.claim.pre args = true) (hwl : WellAll P h vals args) :
  ∃ a vs ns, vals = [Value.ref a] /\ args = [WData.list (ns.map WData.int)] /\ h.get? a = some { cls := .type "list", data := .seq vs.toArray } /\ IntsAre vs ns /\ ns.length <= n := by
 have hsh : WShape.hasAll [] args [.list .int] = true := (pre_splitW hpre).1
 have hc : l.pre.holds [] { args := args } = true := (pre_splitW hpre).2
 obtain ⟨d, r, rfl, h1, h2⟩ := hasAllW_cons hsh
 obtain rfl := hasAllW_nil h2
 obtain ⟨xs, rfl, h3⟩ := hasW_list h1
 obtain ⟨ns, rfl⟩ := items_int h3
 have hlen : ns.length <= n := by
  unfold OpenLaw.pre at hc
  have h4 : (WTm.not (.lt (.lit (.int (n : Int))) (.len (.arg 0)))).holds [] { args := [.list (ns.map .int)] } = true := by
   have h4 := (holds_andW hc).1
   rw [hn] at h4
   exact h4
  have h5 := condW_of h4 (w_not (w_lt w_lit (w_len_list (w_arg rfl))))
  rw [length_map] at h5
  refine Nat.le_of_not_lt fun q => ?_
  have q' : (n : Int) < ((ns.length : Nat) : Int) := by omega
  first
   | (rw [decide_eq_true q'] at h5; exact absurd h5 Z0)
   | (simp at h5; omega)
 cases hwl with
 | cons w1 w2 =>
  cases w2
  cases w1 with
  | list ho hall => exact ⟨_, _, ns, rfl, rfl, ho, sV ns _ hall, hlen⟩
theorem Er (l : OpenLaw) (args : List WData) : l.row.toRowW.claim.post args (.bool true) args = true :=
 postW_of (r := l.row.toRowW) (X := (true == true))
  (show WShape.has [] (.bool true) .bool = true by first | rfl | decide | simp [WShape.has, WShape.arms, WShape.armsAll])
  (show (WTm.eq .res (.lit (.bool true))).value [] { args := args, res := some (.bool true), after := args } = some (.bool (true == true)) from w_eq_bool (w_res rfl) w_lit) rfl
theorem attach_call {l : OpenLaw} {n : Nat} {q : Program} {loose : List Str} {XP : (Str -> Option Value) -> Heap -> Prop} {YP : World -> Heap -> Prop} {d : DefRec}
  (hn : l.most = some n) (hdf : d.params.defaults = [])
  (call : ∀ (w : World) (s₀ s₁ : Shared) (mg mb : MG) (fa : Addr) (o : Obj) (pm cd doc : Value) (a : Addr) (vs : List Value) (ns : List Int),
   Ground q loose [] XP w s₀ mg mb s₁.heap -> YP w s₁.heap ->
   s₁.heap.get? fa = some o -> o.data = .func (docDef d.name d.params d.body d.scope pm cd doc) -> s₁.heap.CodeRec cd d.name -> mg d.name = some (.ref fa) ->
   s₁.heap.get? a = some { cls := .type "list", data := .seq vs.toArray } -> IntsAre vs ns -> ns.length <= n -> s₁.gens = #[] ->
   codeAny (model l.prog w) callerA (.call (.ref fa) ⟨[.ref a], []⟩) (fun r s' => r = .ok (.ret (.bool true)) /\ OldK s₁.heap s'.heap /\ s'.os = s₁.os /\ AllBare s'.gens) s₁) :
  WalkO q loose XP YP l.row.toRowW d [] (fun f vs => PySem.call f vs) := by
 intro w s₀ s₁ mg mb G Y fa o pm cd doc dV kV ho hd hcd hD hmg hg args vals as hpre hlay hrd hwl hlo
 obtain rfl : dV = .none := Dflts.none hD hdf
 obtain rfl : kV = .none := Dflts.noKw hD
 obtain ⟨a, vs, ns, rfl, rfl, hobj, hints, hlen⟩ := Fx hn hpre hwl
 refine enter_call (codeAny_mono (call w s₀ s₁ mg mb fa o pm cd doc a vs ns G Y ho (fd_plain hd) hcd hmg hobj hints hlen hg) fun r s' hq => ?_)
 obtain ⟨rfl, h2, h3, h4⟩ := hq
 exact ⟨.inl ⟨.bool true, .bool true, [], rfl, fun _ => rfl, .bool true, Er l _, fun _ => ⟨List.Pairwise.nil, fun _ hm => (nomatch hm)⟩⟩, h2, h3, h4⟩
section
variable {prog : Program} {w : World} {A : Around} {E : EV} {s : Shared} {K : Frag}
end
end Att
namespace L2
open PySem PySem.Spec PyProof.Rows
theorem wG : ∀ {vs : List Value} {ns : List Int}, IntsAre vs ns -> Vals (ns.map V.int) vs
 | _, _, .nil => .nil
 | _, _, .cons n t h => .cons ⟨t, rfl⟩ (wG h)
def Only (H : Hp) : Prop := ∀ b, H b = none \/ ∃ o xs, H b = some (.frz o (.lst xs))
theorem HF {P : Program} {w : World} {K : Frag} {mg mb : MG} {CX : CXT} {k : Nat} {fa a : Addr} {fd : FuncData} {x : Str} {sp : Sp} {s₁ : Shared} {vs : List Value} {ns : List Int}
  (KX : K.In s₁.heap) (hns : s₁.heap.Ns mainGlobals mg) (hb : s₁.heap.Ns builtinsNs mb) (hbb : ∀ x : Str, x ≠ "__name__" -> mb x = bootBuiltins x) (hlim : s₁.heap.NoLimit) (hg : s₁.gens = #[])
  (ha : s₁.heap.get? a = some { cls := .type "list", data := .seq vs.toArray }) (hi : IntsAre vs ns) (hl : ns.length <= sizeLine) (hr : aY k callerA)
  (F : ∀ base : Heap, K.In base -> base.Ns mainGlobals mg -> aL P w K mg base CX k fa fd [x] sp) (hbind : ∀ (s : Shared) (u : Value), BindsTo s fd ⟨[u], []⟩ [(x, u)])
  (hsp : ∀ H : Hp, Only H -> SqL K H a (ns.map V.int) -> sp [.ref a] H (fun v _ => v = .bl true) fun _ _ _ => False)
  (hCX : ∀ H e s', CX [] H s₁ (fun _ _ _ => False) e s' -> False) :
  codeAny (model P w) callerA (.call (.ref fa) ⟨[.ref a], []⟩) (fun r s' => r = .ok (.ret (.bool true)) /\ OldK s₁.heap s'.heap /\ s'.os = s₁.os /\ AllBare s'.gens) s₁ := by
 have rv := wG hi
 have lenV := hi.length
 have core : ∀ H : Hp, Only H -> SqL K H a (ns.map V.int) -> HOk P w H s₁.heap -> (∀ b, H b ≠ none -> b = a) -> (H a ≠ none -> K.lookup a = none) ->
   codeAny (model P w) callerA (.call (.ref fa) ⟨[.ref a], []⟩) (fun r s' => r = .ok (.ret (.bool true)) /\ OldK s₁.heap s'.heap /\ s'.os = s₁.os /\ AllBare s'.gens) s₁ := by
  intro H hO hS hok hA hK
  have base_of : ∀ {b : Addr} {o : Obj}, s₁.heap.get? b = some o -> H b = none -> (yZ s₁.heap H).get? b = some o := fun e n => Jh e n
  have noA : ∀ {b : Addr} {o : Obj} {es : Array DictEntry} {ep : Nat}, s₁.heap.get? b = some o -> o.data = .dict es ep -> H b = none := fun {b o es ep} e d => by
   cases q : H b with
   | none => rfl
   | some u =>
    have e' : b = a := hA b (by rw [q]; simp)
    subst e'
    rw [ha] at e; cases e
    have d' : Data.seq vs.toArray _ = Data.dict es ep := d
    cases d'
  have nsK : ∀ {b : Addr} {m : MG}, s₁.heap.Ns b m -> (yZ s₁.heap H).Ns b m := fun {b m} ⟨o, es, ep, e, d, r⟩ => ⟨o, es, ep, base_of e (noA e d), d, r⟩
  have hKb : K.In (yZ s₁.heap H) := fun b o e => base_of (KX b o e) (by
   cases q : H b with
   | none => rfl
   | some u =>
    have e' : b = a := hA b (by rw [q]; simp)
    subst e'
    rw [hK (by rw [q]; simp)] at e; cases e)
  have hM : Mod K mg (yZ s₁.heap H) := ⟨hKb, nsK hns, ⟨mb, nsK hb, hbb⟩, let ⟨mc, h1, h2⟩ := hlim; ⟨mc, nsK h1, h2⟩⟩
  have e0 : Bh P w K mg (yZ s₁.heap H) callerA [] s₁ H := ⟨rfl, hM, fun b o e => JF e, le_of_eq (Fg _ _), trivial, fun b hb => absurd (show b ∈ ([] : List Addr) from hb) Z2, hok, .of_eq hg⟩
  refine codeAny_mono ((F _ hKb (nsK hns)).run callerA [] s₁ H ⟨[.ref a], []⟩ [.ref a] [.ref a] _ _ hr e0 (hbind s₁ (.ref a)) (.cons rfl .nil) (hsp H hO hS)) fun r s' h => ?_
  cases r with
  | error e => exact (hCX H e s' h).elim
  | ok fl =>
   cases fl with
   | next => exact False.elim h
   | brk => exact False.elim h
   | cont => exact False.elim h
   | ret u =>
    obtain ⟨v, H', os, bare, un, hok', r', q⟩ := h
    have q' : v = .bl true := q
    subst q'
    obtain rfl : u = Value.bool true := r'
    refine ⟨rfl, OldK.of_keep fun b o e => ?_, os, bare⟩
    cases q : H b with
    | none => exact un.keep b o e q (by intro z; exact absurd (show b ∈ ([] : List Addr) from z) Z2) Z2
    | some u =>
     rcases hO b with z | ⟨ob, xs, z⟩
     ·rw [q] at z; cases z
     ·have z2 := un.frzs b ob _ z
      obtain ⟨e1, _⟩ := hok b _ z
      obtain ⟨e2, _⟩ := hok' b _ z2
      rw [e] at e1; cases e1
      exact e2
 cases hk : K.lookup a with
 | some o =>
  have e := KX a o hk
  rw [ha] at e
  cases e
  refine core (fun _ => none) (fun _ => .inl rfl) (.inr ⟨_, vs.toArray, _, hk, rfl, rfl, rfl, by rw [size_toArray, lenV]; exact hl, by simpa using rv⟩) (fun b u z => by have z' : (none : Option HO) = some u := z; cases z') (fun b z => absurd rfl z) fun z => absurd rfl z
 | none =>
  refine core (fun b => if b = a then some (.frz { cls := .type "list", data := .seq vs.toArray } (.lst (ns.map V.int))) else none) (fun b => ?_) (.inl (.inr ⟨{ cls := .type "list", data := .seq vs.toArray }, if_pos rfl⟩)) (fun b u z => ?_) (fun b z => ?_) fun _ => hk
  ·by_cases hb : b = a
   ·exact .inr ⟨_, _, if_pos hb⟩
   ·exact .inl (if_neg hb)
  ·by_cases hb : b = a
   ·have z' := (if_pos hb).symm.trans z
    cases z'
    subst hb
    exact ⟨ha, by rw [length_map]; exact hl, vs, _, rv, ha⟩
   ·have z' := (if_neg hb).symm.trans z
    cases z'
  ·by_cases hb : b = a
   ·exact hb
   ·exact absurd (if_neg hb) z
theorem Ke {l : OpenLaw} {n k : Nat} {q : Program} {loose : List Str} {XP : (Str -> Option Value) -> Heap -> Prop} {YP : World -> Heap -> Prop} {d : DefRec} {K : Params -> Frag} {CX : World -> CXT} {sp : World -> Sp} {x : Str}
  (hn : l.most = some n) (hn2 : n <= sizeLine) (hdf : d.params.defaults = []) (hr : aY k callerA)
  (hY : ∀ (w : World) (h : Heap), YP w h -> (K w.params).In h)
  (F : ∀ (w : World) (mg : MG) (fa : Addr) (h : Heap), (K w.params).In h -> h.Ns mainGlobals mg -> mg d.name = some (.ref fa) ->
   ∃ fd : FuncData, (∀ (s : Shared) (u : Value), BindsTo s fd ⟨[u], []⟩ [(x, u)]) /\
    ∀ base : Heap, (K w.params).In base -> base.Ns mainGlobals mg -> aL l.prog w (K w.params) mg base (CX w) k fa fd [x] (sp w))
  (hsp : ∀ (w : World) (H : Hp) (a : Addr) (ns : List Int), ns.length <= n -> Only H -> SqL (K w.params) H a (ns.map V.int) -> sp w [.ref a] H (fun v _ => v = .bl true) fun _ _ _ => False)
  (hCX : ∀ (w : World) (H : Hp) (s : Shared) (e : Value) (s' : Shared), CX w [] H s (fun _ _ _ => False) e s' -> False) :
  WalkO q loose XP YP l.row.toRowW d [] (fun f vs => PySem.call f vs) := by
 refine Att.attach_call hn hdf fun w s₀ s₁ mg mb fa o pm cd doc a vs ns G Y ho hd hcd hmg hobj hints hlen hg => ?_
 have KX := hY w _ Y
 obtain ⟨fd, hb, hF⟩ := F w mg fa _ KX G.T.g hmg
 exact HF KX G.T.g G.T.b G.T.builtins G.T.nolimit hg hobj hints (le_trans hlen hn2) hr hF hb (fun H hO hS => hsp w H a ns hlen hO hS) fun H e s' => hCX w H s₁ e s'
def dC (s : Stmt) : Arguments := match s with
 | .FunctionDef _ a _ _ _ _ _ _ _ _ => a
 | _ => { posonlyargs := [], args := [], vararg := none, kwonlyargs := [], kw_defaults := [], kwarg := none, defaults := [] }
def bZ (s : Stmt) : List Stmt := match s with
 | .FunctionDef _ _ b _ _ _ _ _ _ _ => b
 | _ => []
def aB (s : Stmt) : Scope := match s with
 | .FunctionDef _ _ _ _ _ _ sc _ _ _ => sc
 | _ => { kind := .function, names := [], isGenerator := false, isCoroutine := false }
abbrev CX0 : CXT := fun _ _ _ _ _ _ => False
abbrev E0 : XK := fun _ _ _ => False
theorem jl {X : Cx} : kJ CX0 X E0 := fun _ _ _ _ _ _ _ h => h.elim
structure Fun (K : Frag) (x qual : Str) (st : Stmt) (f : Addr) (fd : FuncData) : Prop where
 ex : ∃ (oc : Value) (od : Option Addr) (kV doc pm : Value) (an : Option Addr) (cdv ct : Value) (osl : Array (Option Value)),
  fd = fnOf x qual (dC st) (bZ st) (aB st) .none kV doc pm an cdv ct /\ K.lookup f = some ⟨oc, od, .func fd, osl⟩ /\ codeIn K cdv qual = true
 kp : keepIn K (.ref f) = true
section
variable {P : Program} {w : World} {K : Frag} {mg : MG} {base : Heap}
theorem Fun.ok {x qual : Str} {st : Stmt} {f : Addr} {fd : FuncData} {N ps : List Str} {k : Nat} {sp : Sp} (F : Fun K x qual st f fd) (S : aG N ps (aB st)) (len : ∀ vs H Q E, sp vs H Q E -> vs.length = ps.length)
  (hbody : ∀ (cdv : Value) (A : Around) (outer : List Env) (s : Shared) (H : Hp) (vs : List V) (Q : VK) (E : XK), aY k (A.deeper (envOfC qual (aB st) s.heap.objs.size f cdv)) -> sp vs H Q E ->
   ∃ t, PSs (nT CX0 P w K mg base N qual (aB st) f cdv A outer s H E).nox (bZ st) t /\ t { nx := fun _ H' => Q .non H', rt := Q } (start N vs) H) : aL P w K mg base CX0 (k + 1) f fd ps sp := by
 obtain ⟨oc, od, kV, doc, pm, an, cdv, ct, osl, rfl, lk, hcd⟩ := F.ex
 refine KC lk hcd S len fun A outer s H vs Q E hr hsp => ?_
 obtain ⟨t, h, q⟩ := hbody cdv A outer s H vs Q E hr hsp
 exact ⟨t, h.nox, q⟩
theorem Fun.binds {x qual : Str} {st : Stmt} {f : Addr} {fd : FuncData} {ps : List Str} (F : Fun K x qual st f fd)
  (h : ∀ (kV doc pm : Value) (an : Option Addr) (cdv ct : Value) (us : List Value), us.length = ps.length -> bindArgs (fnOf x qual (dC st) (bZ st) (aB st) .none kV doc pm an cdv ct) ⟨us, []⟩ = pure (ps.zip us)) : Binds K fd ps [] := by
 obtain ⟨oc, od, kV, doc, pm, an, cdv, ct, osl, rfl, lk, hcd⟩ := F.ex
 exact .all (h kV doc pm an cdv ct)
theorem FZ {x qual : Str} {st : Stmt} {f : Addr} {oc : Value} {od an : Option Addr} {osl : Array (Option Value)} {kV doc pm cdv ct : Value} (l : K.lookup f = some ⟨oc, od, .func (fnOf x qual (dC st) (bZ st) (aB st) .none kV doc pm an cdv ct), osl⟩)
  (c : codeIn K cdv qual = true) (k : keepIn K (.ref f) = true) : Fun K x qual st f (fnOf x qual (dC st) (bZ st) (aB st) .none kV doc pm an cdv ct) := ⟨⟨oc, od, kV, doc, pm, an, cdv, ct, osl, rfl, l, c⟩, k⟩
end
section
variable {X : Cx}
theorem pv (i : Nat) {x : Str} {pos : Pos} (hN : X.N[i]? = some x := by rfl) (hv : Vis X.env.scope x := by first | exact Or.inl rfl | exact Or.inr (Or.inl rfl) | exact Or.inr (Or.inr rfl)) (hd : (x == ("__debug__" : Str)) = false := by decide)
  (hcd : (x == ("__classdict__" : Str)) = false := by decide) : PE X (.Name x pos) (yE i) := Ln hN hv hd hcd
end
theorem iR {A B : Prop} (h : B) : if false = true then A else B := by
 rw [if_neg Bool.false_ne_true]
 exact h
theorem Lx {A B : Prop} (h : A) : if true = true then A else B := by
 rw [if_pos rfl]
 exact h
def az (H H' : Hp) : Prop := ∀ b o, H b = some o -> H' b = some o
theorem az.refl (H : Hp) : az H H := fun _ _ h => h
theorem az.trans {H H1 H2 : Hp} (a : az H H1) (b : az H1 H2) : az H H2 := fun c o h => b c o (a c o h)
theorem az.free {H H' : Hp} (e : az H H') {l : Addr} (h : H' l = Option.none) : H l = Option.none := by
 cases q : H l with
 | none => rfl
 | some o =>
  rw [e l o q] at h
  cases h
theorem az.seq {K : Frag} {H H' : Hp} {a : Addr} {xs : List V} (e : az H H') (h : SqL K H a xs) : SqL K H' a xs := by
 rcases h with (h | ⟨o, h⟩) | h
 ·exact .inl (.inl (e _ _ h))
 ·exact .inl (.inr ⟨o, e _ _ h⟩)
 ·exact .inr h
section
variable {κ : Type} [DecidableEq κ]
def iG (kvs : List (κ × V)) (k : κ) : Option V := (kvs.find? fun kv => decide (kv.1 = k)).map (·.2)
def putK (kvs : List (κ × V)) (k : κ) (v : V) : List (κ × V) :=
 if (kvs.any fun kv => decide (kv.1 = k)) = true then kvs.map (fun kv => if kv.1 = k then (kv.1, v) else kv) else kvs ++ [(k, v)]
theorem dH {p : κ × V} {r : List (κ × V)} {k : κ} (e : p.1 = k) : iG (p :: r) k = some p.2 := by simp [iG, find?_cons, e]
theorem dO {p : κ × V} {r : List (κ × V)} {k : κ} (e : ¬ p.1 = k) : iG (p :: r) k = iG r k := by simp [iG, find?_cons, e]
theorem qJ (k : κ) : ∀ kvs : List (κ × V), (kvs.any fun kv => decide (kv.1 = k)) = (iG kvs k).isSome
 | [] => rfl
 | p :: r => by
  rw [any_cons]
  by_cases e : p.1 = k
  ·simp only [dH e, decide_eq_true e, Bool.true_or, Option.isSome_some]
  ·rw [dO e, decide_eq_false e, Bool.false_or]; exact qJ k r
theorem Bc (k j : κ) (y : V) : ∀ kvs : List (κ × V), iG (kvs.map fun kv => if kv.1 = k then (kv.1, y) else kv) j = (iG kvs j).map fun x => if j = k then y else x
 | [] => rfl
 | p :: r => by
  have ih := Bc k j y r
  rw [map_cons]
  by_cases h : p.1 = k
  ·rw [if_pos h]
   by_cases e : p.1 = j
   ·rw [dH (p := (p.1, y)) e, dH e, map_some, if_pos (e.symm.trans h)]
   ·rw [dO (p := (p.1, y)) e, dO e, ih]
  ·rw [if_neg h]
   by_cases e : p.1 = j
   ·rw [dH (p := p) e, dH e, map_some, if_neg (fun z => h (e.trans z))]
   ·rw [dO (p := p) e, dO e, ih]
theorem wN (k j : κ) (y : V) : ∀ kvs : List (κ × V), iG kvs k = none -> iG (kvs ++ [(k, y)]) j = if j = k then some y else iG kvs j
 | [], _ => by
  by_cases e : k = j
  ·rw [if_pos e.symm]; exact dH (p := (k, y)) e
  ·rw [if_neg (fun z => e z.symm)]; exact dO (p := (k, y)) e
 | p :: r, hn => by
  rw [List.cons_append]
  have hk : ¬ p.1 = k := fun z => by rw [dH z] at hn; cases hn
  rw [dO hk] at hn
  have ih := wN k j y r hn
  by_cases e : p.1 = j
  ·rw [dH e, dH e, if_neg (fun z => hk (e.trans z))]
  ·rw [dO e, dO e, ih]
theorem u5 (kvs : List (κ × V)) (k j : κ) (y : V) : iG (putK kvs k y) j = if j = k then some y else iG kvs j := by
 unfold putK
 by_cases a : (kvs.any fun kv => decide (kv.1 = k)) = true
 ·rw [if_pos a, Bc]
  rw [qJ] at a
  by_cases e : j = k
  ·obtain ⟨x, hx⟩ := isSome_iff_exists.mp a
   rw [if_pos e, e, hx, map_some, if_pos rfl]
  ·rw [if_neg e]
   cases iG kvs j with
   | none => rfl
   | some x => rw [map_some, if_neg e]
 ·rw [if_neg a]
  refine wN k j y kvs ?_
  rw [qJ] at a
  cases q : iG kvs k with
  | none => rfl
  | some x => rw [q] at a; exact (a rfl).elim
theorem jV (kvs : List (κ × V)) (k : κ) (v : V) : (putK kvs k v).length <= kvs.length + 1 := by
 unfold putK
 split
 ·rw [length_map]; omega
 ·rw [length_append, length_cons, length_nil]; omega
theorem kZ.isSome_eq {o : Option V} {u : Option Value} (r : kZ o u) : o.isSome = u.isSome := by
 cases o with
 | none => cases u with
  | none => rfl
  | some _ => exact (show False from r).elim
 | some _ => cases u with
  | none => exact (show False from r).elim
  | some _ => rfl
theorem KV.val {kvs : List (κ × V)} {vs : List (κ × Value)} (r : KV kvs vs) (k : κ) : kZ (iG kvs k) (valueAt vs k) := by
 unfold KV at r
 induction r with
 | nil => exact True.intro
 | @cons p q ps qs h t ih =>
  obtain ⟨h1, h2⟩ := h
  by_cases e : p.1 = k
  ·have e' : q.1 = k := h1.symm.trans e
   have b : valueAt (q :: qs) k = some q.2 := by simp [valueAt, find?_cons, e']
   rw [dH e, b]; exact h2
  ·have e' : ¬ q.1 = k := fun z => e (h1.trans z)
   have b : valueAt (q :: qs) k = valueAt qs k := by simp [valueAt, find?_cons, e']
   rw [dO e, b]; exact ih
theorem KV.any {kvs : List (κ × V)} {vs : List (κ × Value)} (r : KV kvs vs) (k : κ) : (kvs.any fun kv => decide (kv.1 = k)) = vs.any fun kv => decide (kv.1 = k) := by
 unfold KV at r
 induction r with
 | nil => rfl
 | cons h t ih => rw [any_cons, any_cons, ih, h.1]
theorem KV.repl {kvs : List (κ × V)} {vs : List (κ × Value)} (r : KV kvs vs) (k : κ) {y : V} {u : Value} (ry : RelV y u) :
  KV (kvs.map fun kv => if kv.1 = k then (kv.1, y) else kv) (vs.map fun kv => if kv.1 = k then (kv.1, u) else kv) := by
 unfold KV at r ⊢
 induction r with
 | nil => exact .nil
 | @cons p q ps qs h t ih =>
  rw [map_cons, map_cons]
  refine .cons ?_ ih
  obtain ⟨h1, h2⟩ := h
  by_cases e : p.1 = k
  ·rw [if_pos e, if_pos (h1.symm.trans e)]; exact ⟨h1, ry⟩
  ·rw [if_neg e, if_neg (fun z => e (h1.trans z))]; exact ⟨h1, h2⟩
theorem KV.put {kvs : List (κ × V)} {vs : List (κ × Value)} (r : KV kvs vs) (k : κ) {y : V} {u : Value} (ry : RelV y u) : KV (putK kvs k y) (stored vs k u) := by
 unfold putK stored
 rw [r.any k]
 by_cases e : (vs.any fun kv => decide (kv.1 = k)) = true
 ·rw [if_pos e, if_pos e]; exact r.repl k ry
 ·rw [if_neg e, if_neg e]; exact Paired.snoc r ⟨rfl, ry⟩
theorem KV.length {kvs : List (κ × V)} {vs : List (κ × Value)} (r : KV kvs vs) : kvs.length = vs.length := Paired.length r
end
theorem Dg {P : Program} {w : World} {k : Key} {u : Value} (r : RelV (kV k) u) : (cM P w).is k u = true := by
 cases k with
 | inl i => obtain ⟨t, e⟩ := (show ∃ t, u = Value.int i t from r); subst e; exact zQ P w i t
 | inr x => obtain ⟨t, e⟩ := (show ∃ t, u = Value.str x t from r); subst e; exact Ag P w x t
theorem wH {P : Program} {w : World} : ∀ {ks : List Key} {us : List Value}, Vals (ks.map kV) us -> ItemsAre (cM P w) ks us
 | [], _, r => by rw [map_nil] at r; cases r; exact .nil
 | k :: ks, _, r => by
  rw [map_cons] at r
  cases r with
  | cons h t => exact .cons (Dg h) (wH t)
abbrev KT (H : Hp) : List (List Key × V) -> List (List Key × Addr × Value) -> Prop := Paired fun p q => p.1 = q.1 /\ H q.2.1 = some (.tup (p.1.map kV)) /\ RelV p.2 q.2.2
theorem KT.val {H : Hp} {kvs : List (List Key × V)} {xs : List (List Key × Addr × Value)} (r : KT H kvs xs) (k : List Key) : kZ (iG kvs k) ((atKey xs k).map (·.2)) := by
 induction r with
 | nil => exact True.intro
 | @cons p q ps qs h t ih =>
  obtain ⟨h1, _, h2⟩ := h
  by_cases e : p.1 = k
  ·have e' : q.1 = k := h1.symm.trans e
   have b : atKey (q :: qs) k = some q.2 := by simp [atKey, find?_cons, e']
   rw [dH e, b]; exact h2
  ·have e' : ¬ q.1 = k := fun z => e (h1.trans z)
   have b : atKey (q :: qs) k = atKey qs k := by simp [atKey, find?_cons, e']
   rw [dO e, b]; exact ih
theorem KT.repl {H : Hp} {kvs : List (List Key × V)} {xs : List (List Key × Addr × Value)} (r : KT H kvs xs) (k : List Key) {y : V} {u : Value} (ry : RelV y u) :
  KT H (kvs.map fun kv => if kv.1 = k then (kv.1, y) else kv) (xs.map (putAt k u)) := by
 induction r with
 | nil => exact .nil
 | @cons p q ps qs h t ih =>
  rw [map_cons, map_cons]
  refine .cons ?_ ih
  obtain ⟨h1, h2, h3⟩ := h
  unfold putAt
  by_cases e : p.1 = k
  ·rw [if_pos e, if_pos (h1.symm.trans e)]; exact ⟨h1, h2, ry⟩
  ·rw [if_neg e, if_neg (fun z => e (h1.trans z))]; exact ⟨h1, h2, h3⟩
theorem KT.put {H : Hp} {kvs : List (List Key × V)} {xs : List (List Key × Addr × Value)} (r : KT H kvs xs) (k : List Key) {b : Addr} {y : V} {u : Value} (hb : H b = some (.tup (k.map kV))) (ry : RelV y u) :
  KT H (putK kvs k y) (storedH xs k b u) := by
 have e : (kvs.any fun kv => decide (kv.1 = k)) = (atKey xs k).isSome := by
  rw [qJ, (r.val k).isSome_eq, Option.isSome_map]
 unfold putK storedH
 rw [e]
 by_cases q : (atKey xs k).isSome = true
 ·rw [if_pos q, if_pos q]; exact r.repl k ry
 ·rw [if_neg q, if_neg q]; exact Paired.snoc r ⟨rfl, hb, ry⟩
theorem KT.keeps {H H' : Hp} {kvs : List (List Key × V)} {xs : List (List Key × Addr × Value)} (r : KT H kvs xs) (ht : ∀ b ys, H b = some (.tup ys) -> H' b = some (.tup ys)) : KT H' kvs xs :=
 Paired.mapP r fun _ _ z => ⟨z.1, ht _ _ z.2.1, z.2.2⟩
section
variable {P : Program} {w : World} {H : Hp} {h : Heap} {a : Addr}
theorem KH {u : HO} (ok : HOk P w H h) (e : Rd H a u) : bY P w H h a u := e.ok ok
theorem Hm {kvs : List (Key × V)} (ok : HOk P w H h) (e : Rd H a (.dK kvs)) : kvs.length <= sizeLine /\ (a == sysModules) = false /\ ∃ vs, KV kvs vs /\ h.DictOf (cM P w) a vs :=
 show bY P w H h a (.dK kvs) from KH ok e
theorem Pq {kvs : List (Key × V)} (ok : HOk P w H h) (e : H a = some (.dK kvs)) : kvs.length <= sizeLine /\ (a == sysModules) = false /\ ∃ vs, KV kvs vs /\ h.DictOf (cM P w) a vs := Hm ok (.inl e)
theorem BJ {ks : List Key} (ok : HOk P w H h) (e : H a = some (.tup (ks.map kV))) : (tupleKind (cM P w)).is h ks a := by
 obtain ⟨_, its, r, o, h1, h2, n, h3⟩ := (show bY P w H h a (.tup (ks.map kV)) from ok a _ e)
 exact ⟨o, its.toArray, n, h1, h2, h3, by simpa using wH r⟩
theorem HY {kvs : List (List Key × V)} (ok : HOk P w H h) (e : Rd H a (.dT kvs)) : kvs.length <= sizeLine /\ (a == sysModules) = false /\
  ∃ xs, KT H kvs xs /\ h.DictOfH (tupleKind (cM P w)) a xs := by
 obtain ⟨z, y, xs, r, o, es, ep, h1, h2, h3, h4, h5⟩ := (show bY P w H h a (.dT kvs) from KH ok e)
 refine ⟨z, y, xs, r, o, es, ep, h1, h2, h3, h4, fun x hx => ?_, h5⟩
 have all : ∀ {l : List (List Key × V)} {m : List (List Key × Addr × Value)}, KT H l m -> ∀ x ∈ m, (tupleKind (cM P w)).is h x.1 x.2.1 := by
  intro l m q
  induction q with
  | nil => intro x hx; exact nomatch hx
  | @cons p q ps qs hq t ih =>
   intro x hx
   rcases mem_cons.mp hx with e | hx
   ·subst e
    exact BJ ok (by rw [<- hq.1]; exact hq.2.1)
   ·exact ih x hx
 exact all r x hx
theorem OJ {kvs : List (List Key × V)} (ok : HOk P w H h) (e : H a = some (.dT kvs)) : kvs.length <= sizeLine /\ (a == sysModules) = false /\
  ∃ xs, KT H kvs xs /\ h.DictOfH (tupleKind (cM P w)) a xs := HY ok (.inl e)
end
def yH (H : Hp) (a : Addr) (y : V) (r : Option V) : Prop :=
 (∃ kvs k, Rd H a (.dK kvs) /\ y = kV k /\ r = iG kvs k) \/ ∃ kvs k b, Rd H a (.dT kvs) /\ y = .ref b /\ H b = some (.tup (k.map kV)) /\ r = iG kvs k
def Hy (H : Hp) (a : Addr) (y v : V) (H' : Hp) : Prop :=
 (∃ kvs k, H a = some (.dK kvs) /\ y = kV k /\ kvs.length < sizeLine /\ H' = upd H a (.dK (putK kvs k v))) \/
 ∃ kvs k b, H a = some (.dT kvs) /\ y = .ref b /\ H b = some (.tup (k.map kV)) /\ kvs.length < sizeLine /\ H' = upd H a (.dT (putK kvs k v))
theorem yH.k {H : Hp} {a : Addr} {kvs : List (Key × V)} {k : Key} (e : H a = some (.dK kvs)) : yH H a (kV k) (iG kvs k) := .inl ⟨kvs, k, .inl e, rfl, rfl⟩
theorem Hy.k {H : Hp} {a : Addr} {kvs : List (Key × V)} {k : Key} {v : V} (e : H a = some (.dK kvs)) (hl : kvs.length < sizeLine) : Hy H a (kV k) v (upd H a (.dK (putK kvs k v))) := .inl ⟨kvs, k, e, rfl, hl, rfl⟩
section
variable {X : Cx} {pins : OP} {σ : St} {H : Hp} {s : Shared} {a : Addr} {y v : V} {u r : Value} {o : Option V} {A : Around} {E : EV}
theorem Inv.big (I : Inv X pins σ H s) : sysModules < s.heap.objs.size := by
 have h : mainGlobals < s.heap.objs.size := (I.mod.glob.keeps I.bk).lt
 exact Nat.lt_trans Z0 h
theorem Eo {Q : EV} (hu : A.units + 1 < cLine) (I : Inv X pins σ H s) (g : yH H a y (some v)) (ry : RelV y u) (h : ∀ w' s', Inv X pins σ H s' -> RelV v w' -> Q w' s') :
  wpAny (model X.prog X.w) A (getItem (.ref a) u) Q E s := by
 rcases g with ⟨kvs, k, e, ey, l⟩ | ⟨kvs, k, b, e, ey, eb, l⟩
 ·subst ey
  obtain ⟨z, hd, vs, rel, dd⟩ := Hm I.hok e
  obtain ⟨w', hw, rw'⟩ := kZ.some_of (v := v) (o := valueAt vs k) (by rw [l]; exact rel.val k)
  exact wpAny_getItem_of (Dg ry) dd.mapOf hw (h w' _ (I.tok _) rw')
 ·subst ey
  cases (show u = Value.ref b from ry)
  obtain ⟨z, hd, xs, rel, dd⟩ := HY I.hok e
  obtain ⟨w', hw, rw'⟩ := kZ.some_of (v := v) (o := (atKey xs k).map (·.2)) (by rw [l]; exact rel.val k)
  obtain ⟨p, hp, hp2⟩ := Option.map_eq_some_iff.mp hw
  refine wpAny_getItem_heap (tupleKind_room_in1 hu) (BJ I.hok eb) dd hp ?_
  rw [hp2]
  exact h w' _ (I.tok _) rw'
theorem DP {h' : Heap} {t' : Nat} {ob : HO} (I : Inv X pins σ H s) (mu : Mut (H a)) (hs : Heap.SameBut a s.heap h') (he : ∃ q, h'.get? a = some q) (new : bY X.prog X.w (upd H a ob) h' a ob) :
  Inv X pins σ (upd H a ob) { s with heap := h', toks := t' } :=
 I.write (x := a) (e := a) mu (.inl rfl) (fun b q hb z => (hs.2 b hb).trans z) he new
theorem GJ {P : Program} {w : World} {H' : Hp} {h' : Heap} {kvs : List (Key × V)} {vs : List (Key × Value)} (z : kvs.length <= sizeLine) (hd : (a == sysModules) = false) (rel : KV kvs vs) (dd : h'.DictOf (cM P w) a vs) :
  bY P w H' h' a (.dK kvs) := ⟨z, hd, vs, rel, dd⟩
theorem Fl {H' : Hp} {Q : Unit -> Shared -> Prop} (hu : A.units + 1 < cLine) (I : Inv X pins σ H s) (g : Hy H a y v H') (ry : RelV y u) (rv : RelV v r) (h : ∀ s', Inv X pins σ H' s' -> Q () s') :
  wpAny (model X.prog X.w) A (setItem (.ref a) u r) Q E s := by
 rcases g with ⟨kvs, k, e, ey, l, eH⟩ | ⟨kvs, k, b, e, ey, eb, l, eH⟩
 ·subst ey eH
  obtain ⟨z, hd, vs, rel, dd⟩ := Pq I.hok e
  have hz : vs.length <= sizeLine := by rw [<- rel.length]; exact z
  have hl : (putK kvs k v).length <= sizeLine := by have := jV kvs k v; omega
  refine wpAny_setItem_pairs (hsz := hz) (Dg ry) dd fun h' dd' hs => h _ ?_
  have he : ∃ q, h'.get? a = some q := let ⟨q, _, _, hq, _⟩ := dd'; ⟨q, hq⟩
  exact DP I (by rw [e]; exact True.intro) hs he (GJ hl hd (rel.put k rv) dd')
 ·subst ey eH
  cases (show u = Value.ref b from ry)
  obtain ⟨z, hd, xs, rel, dd⟩ := OJ I.hok e
  have hz : xs.length <= sizeLine := by rw [<- Paired.length rel]; exact z
  have hl : (putK kvs k v).length <= sizeLine := by have := jV kvs k v; omega
  refine wpAny_setItem_heap (hsz := hz) (tupleKind_room_in1 hu) (BJ I.hok eb) dd fun h' dd' hs => h _ ?_
  obtain ⟨q, es, ep, hq, h2, h3, h4, _, h5⟩ := dd'
  refine DP I (by rw [e]; exact True.intro) hs ⟨q, hq⟩ ⟨hl, hd, _, (rel.put k eb rv).keeps fun c ys ec => ?_, q, es, ep, hq, h2, h3, h4, h5⟩
  rw [aK (pq ec e (fun z => nomatch z))]
  exact ec
end
section
variable {X : Cx} {pins : OP} {σ : St} {H : Hp} {s : Shared} {a : Addr} {kvs : List (Key × V)} {k : Key} {u : Value} {A : Around} {E : EV}
end
def O2 (i : Expr) : Prop := ∀ ov iv, subscripted i false ov iv = operate [ov, iv] (getItem ov iv)
theorem J0 {prog : Program} {w : World} {A : Around} {E : EV} {s : Shared} {env : Env} {value slice : Expr} {pos : Pos} {T id : String} {Q : EV}
  (hl : typeLookup (.type T) "__getitem__" = pure (some (.builtin id))) (hs : O2 slice)
  (h : wpAny (model prog w) A (eval value env) (fun o s₁ => wpAny (model prog w) A (eval slice env) (fun i s₂ => s₂.TypeIs o T /\ wpAny (model prog w) A (getItem o i) Q E s₂) E s₁) E s) :
  wpAny (model prog w) A (eval (.Subscript value slice pos) env) Q E s := by
 refine Subscript_ (wpAny_mono h (fun o s₁ h₁ => wpAny_mono h₁ (fun i s₂ h₂ => ?_) fun _ _ x => x) fun _ _ x => x)
 obtain ⟨hT, h₂⟩ := h₂
 unfold subscriptTail
 refine wpAny_bind ?_
 rw [getitemInPython_of_ne hT.not_modules]
 refine wpAny_bind (wpAny_specialOf hT hl ?_)
 have fin : wpAny (model prog w) A (subscripted slice false o i) (fun r s₃ => wpAny (model prog w) A (letTemporaryGo value o r >>= fun _ => pure r) Q E s₃) E s₂ := by
  rw [hs o i]
  exact wpAny_operating (wpAny_mono h₂ (fun r s₃ h₃ => wpAny_bind (wpAny_letTemporaryGo (wpAny_pure h₃))) fun _ _ x => x)
 first
  | exact wpAny_pure (wpAny_bind fin)
  | exact wpAny_bind (wpAny_pure (wpAny_bind fin))
  | exact wpAny_bind fin
theorem Aw {X : Cx} {pins : OP} {σ : St} {H : Hp} {s : Shared} {a : Addr} {y : V} {o : Option V} (I : Inv X pins σ H s) (g : yH H a y o) : s.TypeIs (.ref a) "dict" := by
 rcases g with ⟨kvs, k, e, _, _⟩ | ⟨kvs, k, b, e, _, _, _⟩
 ·obtain ⟨_, _, vs, _, dd⟩ := Hm I.hok e
  exact dd.typeIs
 ·obtain ⟨_, _, xs, _, dd⟩ := HY I.hok e
  exact dd.typeIs
def Pb (td ty : TE) : TE := fun σ H Q => td σ H fun x H1 => ty σ H1 fun y H2 => ∃ a v, x = .ref a /\ yH H2 a y (some v) /\ Q v H2
def Px (td ty tv : TE) : TS := fun D σ H => tv σ H fun v H1 => td σ H1 fun x H2 => ty σ H2 fun y H3 => ∃ a H4, x = .ref a /\ Hy H3 a y v H4 /\ D.nx σ H4
section
variable {X : Cx} {o i e value : Expr} {pos pos' tpos : Pos} {td ty tv : TE}
theorem oV (hu : X.A.units + 1 < cLine) (ho : PE X o td) (hi : PE X i ty) (hs : O2 i) : PE X (.Subscript o i pos) (Pb td ty) := by
 intro pins s σ H Q I h
 refine J0 PySem.F.slot_dict_getitem.lookup hs (thn (ho pins s σ H _ I h) fun u s1 ⟨x, H1, I1, rx, q1⟩ => thn (hi pins s1 σ H1 _ I1 q1) fun iv s2 ⟨y, H2, I2, ry, a, v, ex, g, q2⟩ => ?_)
 subst ex
 obtain rfl : u = Value.ref a := rx
 exact ⟨Aw I2 g, Eo hu I2 g ry fun w' s3 I3 rw' => ⟨v, H2, I3, rw', q2⟩⟩
theorem J3 (hu : X.A.units + 1 < cLine) (ho : PE X o td) (hi : PE X i ty) (hv : PE X value tv) (hs : swapsWith value (some (.Subscript o i pos')) pos.line X.env = pure false) :
  PS X (.Assign [.Subscript o i pos'] value pos) (Px td ty tv) := by
 intro pins s σ H D I h
 refine wpAny_Assign_Subscript (thn (hv pins s σ H _ I h) fun r s1 ⟨v, H1, I1, rv, q1⟩ => thn (ho pins s1 σ H1 _ I1 q1) fun u s2 ⟨x, H2, I2, rx, q2⟩ => thn (hi pins s2 σ H2 _ I2 q2) fun iv s3 ⟨y, H3, I3, ry, a, H4, ex, g, q3⟩ => ?_) hs
 subst ex
 obtain rfl : u = Value.ref a := rx
 exact Fl hu I3 g ry rv fun s4 I4 => ⟨σ, H4, I4, q3⟩
end
theorem Ji {P : Program} {w : World} {H : Hp} (h : Heap) (hb : sysModules < h.objs.size) : bY P w H (h.push { cls := .type "dict", data := .dict #[] }) h.objs.size (.dK []) :=
 ⟨zero_le _, beq_eq_false_iff_ne.mpr (Ne.symm (ne_of_lt hb)), [], .nil, Heap.DictOf.new h⟩
def M8 : TE := fun _ H Q => ∀ p, H p = none -> Q (.ref p) (upd H p (.dK []))
section
variable {X : Cx} {pos : Pos}
theorem Im : PE X (.Dict [] [] pos) M8 := fun pins s σ H Q I h =>
 wpAny_Dict_empty ⟨.ref s.heap.objs.size, _, I.laid (a := s.heap.objs.size) (o := .dK []) (t' := s.toks) (fun _ _ q => Heap.get?_push_of_some _ q) (le_refl _) (Ji s.heap I.big), rfl, h _ (I.hok.fresh (le_refl _))⟩
end
section
variable {X : Cx} {pins : OP} {σ : St} {H : Hp} {s : Shared} {a : Addr} {y d : V} {u r : Value} {o : Option V} {A : Around} {E : EV}
end
section
variable {X : Cx} {o e f : Expr} {apos cpos : Pos} {td ty tx : TE}
end
section
variable {X : Cx} {pins : OP} {σ : St} {H : Hp} {s : Shared} {a : Addr} {kvs : List (Key × V)} {A : Around} {E : EV}
end
section
variable {X : Cx} {pins : OP} {σ : St} {H : Hp} {s : Shared} {a : Addr} {y : V} {u : Value} {A : Around} {E : EV}
end
end L2
set_option maxHeartbeats 4000000
namespace Mine
open PySem PySem.Builtin PySem.Builtin.Str
theorem nP {a b : Str} (h : a.cps.toList = b.cps.toList) : a = b := by
 cases a; cases b
 exact congrArg Str.mk (Array.toList_inj.mp h)
theorem eE (a : Str) : a.length = a.cps.toList.length := by simp [Str.length]
theorem dF (a b : Str) : (a ++ b).cps.toList = a.cps.toList ++ b.cps.toList := by
 show (a.cps ++ b.cps).toList = _
 simp
def inter (c : Nat) : List (List Nat) -> List Nat
 | [] => []
 | [x] => x
 | x :: y :: r => x ++ c :: inter c (y :: r)
theorem ni (c : Nat) : ∀ ys : List Str, (Str.join ⟨#[c]⟩ ys).cps.toList = inter c (ys.map (·.cps.toList))
 | [] => by simp [Str.join, inter, Str.empty]
 | [x] => rfl
 | x :: y :: r => by
  have ih := ni c (y :: r)
  show ((x ++ (⟨#[c]⟩ : Str)) ++ Str.join ⟨#[c]⟩ (y :: r)).cps.toList = _
  rw [dF, dF, ih]
  simp [inter]
theorem oH : ∀ ys : List Str, (Str.join ⟨#[]⟩ ys).cps.toList = (ys.map (·.cps.toList)).flatten
 | [] => by simp [Str.join, Str.empty]
 | [x] => by simp [Str.join]
 | x :: y :: r => by
  have ih := oH (y :: r)
  show ((x ++ (⟨#[]⟩ : Str)) ++ Str.join ⟨#[]⟩ (y :: r)).cps.toList = _
  rw [dF, dF, ih]
  simp
theorem zE {c : Nat} : ∀ {x y R S : List Nat}, c ∉ x -> c ∉ y -> (R = [] \/ ∃ r, R = c :: r) -> (S = [] \/ ∃ r, S = c :: r) -> x ++ R = y ++ S -> x = y /\ R = S
 | [], [], R, S, _, _, _, _, h => ⟨rfl, h⟩
 | [], b :: y, R, S, _, hy, hR, _, h => by
  rcases hR with rfl | ⟨r, rfl⟩
  ·cases h
  ·have e : c = b := (List.cons.inj h).1
   exact absurd (by rw [<- e]; exact mem_cons_self) hy
 | a :: x, [], R, S, hx, _, _, hS, h => by
  rcases hS with rfl | ⟨r, rfl⟩
  ·cases h
  ·have e : a = c := (List.cons.inj h).1
   exact absurd (by rw [e]; exact mem_cons_self) hx
 | a :: x, b :: y, R, S, hx, hy, hR, hS, h => by
  obtain ⟨e, h'⟩ := List.cons.inj h
  obtain ⟨e2, e3⟩ := zE (x := x) (y := y) (fun z => hx (mem_cons_of_mem _ z)) (fun z => hy (mem_cons_of_mem _ z)) hR hS h'
  exact ⟨by rw [e, e2], e3⟩
theorem pO (c : Nat) (x : List Nat) (r : List (List Nat)) : ∃ R, inter c (x :: r) = x ++ R /\ (R = [] \/ ∃ q, R = c :: q) /\ (R = [] ↔ r = []) /\ (∀ q, R = c :: q -> q = inter c r) := by
 cases r with
 | nil => exact ⟨[], by simp [inter], .inl rfl, Z2, fun q h => nomatch h⟩
 | cons y r => exact ⟨c :: inter c (y :: r), rfl, .inr ⟨_, rfl⟩, Z2, fun q h => (List.cons.inj h).2.symm⟩
theorem wV {c : Nat} : ∀ {xs ys : List (List Nat)}, (∀ x ∈ xs, c ∉ x) -> (∀ y ∈ ys, c ∉ y) -> xs ≠ [] -> ys ≠ [] -> inter c xs = inter c ys -> xs = ys
 | [], _, _, _, h, _, _ => absurd rfl h
 | _, [], _, _, _, h, _ => absurd rfl h
 | x :: xs, y :: ys, hx, hy, _, _, h => by
  obtain ⟨R, e1, f1, g1, q1⟩ := pO c x xs
  obtain ⟨S, e2, f2, g2, q2⟩ := pO c y ys
  rw [e1, e2] at h
  obtain ⟨a, b⟩ := zE (hx x mem_cons_self) (hy y mem_cons_self) f1 f2 h
  subst a; subst b
  cases xs with
  | nil =>
   have : ys = [] := g2.mp (g1.mpr rfl)
   rw [this]
  | cons x' xs' =>
   have hR : R ≠ [] := fun z => by cases g1.mp z
   have hys : ys ≠ [] := fun z => hR (g2.mpr z)
   rcases f1 with z | ⟨q, z⟩
   ·exact absurd z hR
   ·have i1 := q1 q z
    have i2 := q2 q z
    rw [wV (fun u hu => hx u (mem_cons_of_mem _ hu)) (fun u hu => hy u (mem_cons_of_mem _ hu)) Z2 hys (i1.symm.trans i2)]
theorem pD : ∀ {xs ys : List Str}, xs.map (·.cps.toList) = ys.map (·.cps.toList) -> xs = ys
 | [], [], _ => rfl
 | [], _ :: _, h => by cases h
 | _ :: _, [], h => by cases h
 | x :: xs, y :: ys, h => by
  obtain ⟨a, b⟩ := List.cons.inj h
  rw [nP a, pD b]
theorem Hz (x y : Str) : Txt.split x y ≠ [] := by
 unfold Txt.split
 split
 ·simp
 ·split
  ·simp
  ·intro h
   have := congrArg List.length h
   rw [length_partsBetween] at this
   simp at this
theorem CJ (c : Nat) (ys : List Str) (h0 : ys ≠ []) (hf : ∀ y ∈ ys, c ∉ y.cps.toList) : Txt.split (Str.join ⟨#[c]⟩ ys) ⟨#[c]⟩ = ys := by
 refine pD (wV (c := c) ?_ ?_ ?_ ?_ ?_)
 ·intro x hx
  obtain ⟨z, hz, rfl⟩ := mem_map.mp hx
  exact StrLaws.split_free _ c z hz
 ·intro x hx
  obtain ⟨z, hz, rfl⟩ := mem_map.mp hx
  exact hf z hz
 ·intro h; exact Hz _ _ (map_eq_nil_iff.mp h)
 ·intro h; exact h0 (map_eq_nil_iff.mp h)
 ·rw [<- ni, <- ni, StrLaws.join_split]
theorem vh (x : Str) (c i : Nat) : StrLaws.At x ⟨#[c]⟩ x.length i ↔ x.cps.toList[i]? = some c := by
 unfold StrLaws.At subAt
 have e1 : ((⟨#[c]⟩ : Str)).length = 1 := rfl
 rw [e1]
 constructor
 ·rintro ⟨h1, h2⟩
  have h3 : x.cps.extract i (i + 1) = #[c] := by simpa using h2
  have h4 := congrArg Array.toList h3
  rw [toList_extract, List.extract_eq_take_drop] at h4
  have h5 : x.cps.toList[i]? = ((x.cps.toList.drop i).take (i + 1 - i))[0]? := by
   rw [getElem?_take, if_pos Z1, List.getElem?_drop]; simp
  rw [h5, h4]; rfl
 ·intro h
  have hlt : i < x.cps.toList.length := (List.getElem?_eq_some_iff.mp h).1
  refine ⟨by rw [eE]; omega, ?_⟩
  have : x.cps.extract i (i + 1) = #[c] := by
   apply Array.toList_inj.mp
   rw [toList_extract, List.extract_eq_take_drop]
   have e : i + 1 - i = 1 := by omega
   rw [e, List.drop_eq_getElem_cons hlt]
   have : x.cps.toList[i] = c := (List.getElem?_eq_some_iff.mp h).2
   rw [this]; rfl
  rw [this]; simp
theorem Ej {x : Str} {c : Nat} (h : c ∉ x.cps.toList) : lastOccurrence x ⟨#[c]⟩ 0 x.length = none := by
 rcases StrLaws.last_spec x ⟨#[c]⟩ with ⟨e, _⟩ | ⟨i, _, hi, _⟩
 ·exact e
 ·exact absurd (mem_of_getElem? ((vh x c i).mp hi)) h
theorem Eg {a b : Str} {c : Nat} (h : c ∉ b.cps.toList) : lastOccurrence (a ++ (⟨#[c]⟩ : Str) ++ b) ⟨#[c]⟩ 0 (a ++ (⟨#[c]⟩ : Str) ++ b).length = some a.length := by
 have hc : (a ++ (⟨#[c]⟩ : Str) ++ b).cps.toList = a.cps.toList ++ c :: b.cps.toList := by rw [dF, dF]; simp
 have here : (a ++ (⟨#[c]⟩ : Str) ++ b).cps.toList[a.length]? = some c := by
  rw [hc, eE, getElem?_append_right (le_refl _)]; simp
 rcases StrLaws.last_spec (a ++ (⟨#[c]⟩ : Str) ++ b) ⟨#[c]⟩ with ⟨_, hn⟩ | ⟨i, e, hi, hn⟩
 ·exact absurd ((vh _ c _).mpr here) (hn _)
 ·rw [e]
  have hi' := (vh _ c i).mp hi
  have h1 : ¬ i < a.length := fun z => hn a.length z ((vh _ c _).mpr here)
  have h2 : ¬ a.length < i := fun z => by
   rw [hc, eE] at *
   rw [getElem?_append_right Z1] at hi'
   obtain ⟨k, hk⟩ : ∃ k, i - a.cps.toList.length = k + 1 := ⟨i - a.cps.toList.length - 1, Z1⟩
   rw [hk] at hi'
   exact h (mem_of_getElem? (by simpa using hi'))
  congr 1
  omega
theorem Je (a b : Str) : strSub (a ++ b) 0 a.length = a := by
 apply nP
 unfold strSub
 show ((a ++ b).cps.extract 0 a.length).toList = _
 rw [toList_extract, List.extract_eq_take_drop, dF, eE]
 simp
theorem Hg (a b : Str) : strSub (a ++ b) a.length (a ++ b).length = b := by
 apply nP
 unfold strSub
 show ((a ++ b).cps.extract a.length (a ++ b).length).toList = _
 rw [toList_extract, List.extract_eq_take_drop, dF, eE, eE, dF]
 simp
 exact List.take_of_length_le Z2
theorem join_snoc (s : Str) (b : Str) : ∀ xs : List Str, xs ≠ [] -> Str.join s (xs ++ [b]) = Str.join s xs ++ s ++ b
 | [], h => absurd rfl h
 | [x], _ => rfl
 | x :: y :: r, _ => by
  have ih := join_snoc s b (y :: r) Z2
  show x ++ s ++ Str.join s (y :: r ++ [b]) = (x ++ s ++ Str.join s (y :: r)) ++ s ++ b
  rw [ih]
  apply nP
  simp only [dF, append_assoc]
def qt : List Int := [48271, 1000003, 15485863, 32452843, 49979687, 67867967, 86028121, 104395301]
def qL : List Int := [179424673, 373587883, 573259391, 776531401, 982451653]
def K4 (c k many : Int) : Int := Builtin.bitAnd (c / 2 ^ (1 + 10 * k).toNat) 1023 % many
def Ah (c k : Int) : Int := (c / 2 % 2305843009213693951 + 1) * (qt.getD (k % 8).toNat 0 * qL.getD (k / 8).toNat 0) % 2305843009213693951
def Bo (c k : Int) : Int := Ah c k * Ah c k % 1000000000039
def Jj (c k many : Int) : Int := (Bo c k + k + 1) * (Bo c k / 10007 + 48271) % 67280421310721 / 31 % many
def pick (c k many : Int) : Int := if c % 2 = 1 /\ 0 < c / 2 ^ (400 : Int).toNat then K4 c k many else Jj c k many
theorem gR (c k : Int) {m : Int} (h : 0 < m) : 0 <= pick c k m := by
 unfold pick; split
 ·exact Int.emod_nonneg _ Z1
 ·exact Int.emod_nonneg _ Z1
theorem jK (c k : Int) {m : Int} (h : 0 < m) : pick c k m < m := by
 unfold pick; split
 ·exact Int.emod_lt_of_pos _ h
 ·exact Int.emod_lt_of_pos _ h
theorem JC (c k : Int) : 0 <= Ah c k := Int.emod_nonneg _ Z0
theorem Ka (c k : Int) : Ah c k < 2305843009213693951 := Int.emod_lt_of_pos _ Z0
theorem JH (c k : Int) : 0 <= Bo c k := Int.emod_nonneg _ Z0
theorem Jz (c k : Int) : Bo c k < 1000000000039 := Int.emod_lt_of_pos _ Z0
theorem Jl {k : Int} (h0 : 0 <= k) (h1 : k < 8) : qt[k.toNat]? = some (qt.getD k.toNat 0) /\ 0 < qt.getD k.toNat 0 /\ qt.getD k.toNat 0 < 1000000000 := by
 have : ∀ n : Fin 8, qt[n.val]? = some (qt.getD n.val 0) /\ 0 < qt.getD n.val 0 /\ qt.getD n.val 0 < 1000000000 := by decide
 exact this ⟨k.toNat, Z1⟩
theorem Kd {k : Int} (h0 : 0 <= k) (h1 : k < 5) : qL[k.toNat]? = some (qL.getD k.toNat 0) /\ 0 < qL.getD k.toNat 0 /\ qL.getD k.toNat 0 < 1000000000 := by
 have : ∀ n : Fin 5, qL[n.val]? = some (qL.getD n.val 0) /\ 0 < qL.getD n.val 0 /\ qL.getD n.val 0 < 1000000000 := by decide
 exact this ⟨k.toNat, Z1⟩
theorem Fz {a b : Int} (ha : 0 < a) (ha' : a < 1000000000) (hb : 0 < b) (hb' : b < 1000000000) : 0 < a * b /\ a * b < 1000000000000000000 := by
 have h1 := Int.mul_pos ha hb
 have h2 : a * b <= 1000000000 * b := Int.mul_le_mul_of_nonneg_right Z1 Z1
 exact ⟨h1, Z1⟩
def Qq (c j : Int) : Int := Builtin.bitOr (c / 2 ^ (480 * j).toNat) 1
def subB (c j : Int) : Int := (c / 2 / (j + 1) + 104729 * j) * 2
def sub (c j : Int) : Int := if c % 2 = 1 /\ 0 < c / 2 ^ (480 * j + 400).toNat then Qq c j else subB c j
structure cQ (x : Str) : Prop where
 lo : 1 <= x.length
 hi : x.length <= 8
 ok : ∀ n ∈ x.cps.toList, 97 <= n /\ n <= 122
theorem cQ.nodot {x : Str} (h : cQ x) : 46 ∉ x.cps.toList := fun z => by have := h.ok 46 z; omega
def letters : Str := "abcdefghijklmnopqrstuvwxyz"
theorem BW {k : Int} (h0 : 0 <= k) (h1 : k < 26) : letters.cps.toList[k.toNat]? = some (97 + k.toNat) := by
 have : ∀ n : Fin 26, letters.cps.toList[n.val]? = some (97 + n.val) := by decide +kernel
 exact this ⟨k.toNat, Z1⟩
theorem pQ : (("." : Str)) = ⟨#[46]⟩ := by decide +kernel
theorem Gq : (("" : Str)) = ⟨#[]⟩ := by decide +kernel
def dotted (ys : List Str) : Str := Txt.join ("." : Str) ys
theorem cH (ys : List Str) : dotted ys = Str.join ⟨#[46]⟩ ys := by
 unfold dotted
 rw [pQ]
 exact StrLaws.glued_eq_join _ ys
theorem bK (ys : List Str) (h0 : ys ≠ []) (hn : ∀ y ∈ ys, cQ y) : Txt.split (dotted ys) ("." : Str) = ys := by
 rw [cH, pQ]
 exact CJ 46 ys h0 fun y hy => (hn y hy).nodot
theorem Ex (y : Str) (h : cQ y) : Txt.rpartition y ("." : Str) = (Str.empty, Str.empty, y) := by
 unfold Txt.rpartition
 rw [pQ, Ej h.nodot]
theorem uN (xs : List Str) (b : Str) (h0 : xs ≠ []) (h : cQ b) : Txt.rpartition (dotted (xs ++ [b])) ("." : Str) = (dotted xs, (".": Str), b) := by
 unfold Txt.rpartition
 rw [cH, cH, pQ, join_snoc _ _ _ h0, Eg h.nodot]
 show (strSub (Str.join ⟨#[46]⟩ xs ++ (⟨#[46]⟩ : Str) ++ b) 0 (Str.join ⟨#[46]⟩ xs).length, _, strSub _ _ _) = _
 have e1 : strSub (Str.join ⟨#[46]⟩ xs ++ (⟨#[46]⟩ : Str) ++ b) 0 (Str.join ⟨#[46]⟩ xs).length = Str.join ⟨#[46]⟩ xs := by
  have : Str.join ⟨#[46]⟩ xs ++ (⟨#[46]⟩ : Str) ++ b = Str.join ⟨#[46]⟩ xs ++ ((⟨#[46]⟩ : Str) ++ b) := nP (by simp only [dF, append_assoc])
  rw [this]; exact Je _ _
 have e2 : strSub (Str.join ⟨#[46]⟩ xs ++ (⟨#[46]⟩ : Str) ++ b) ((Str.join ⟨#[46]⟩ xs).length + (⟨#[46]⟩ : Str).length) (Str.join ⟨#[46]⟩ xs ++ (⟨#[46]⟩ : Str) ++ b).length = b := by
  have l1 : (Str.join ⟨#[46]⟩ xs).length + (⟨#[46]⟩ : Str).length = (Str.join ⟨#[46]⟩ xs ++ (⟨#[46]⟩ : Str)).length := by rw [eE, eE, eE, dF, length_append]
  rw [l1]; exact Hg _ _
 rw [e1, e2]
theorem nq {ys : List Str} {n : Nat} (h : ∀ y ∈ ys, y.length <= n) : (ys.map (·.length)).sum <= ys.length * n := by
 induction ys with
 | nil => simp
 | cons y r ih =>
  have h1 := h y mem_cons_self
  have h2 := ih fun z hz => h z (mem_cons_of_mem _ hz)
  simp only [map_cons, List.sum_cons, length_cons, Nat.add_mul, Nat.one_mul]
  omega
theorem CK (ys : List Str) : (dotted ys).length <= (ys.map (·.length)).sum + ys.length := by
 rw [cH]
 have := StrLaws.join_length_le ⟨#[46]⟩ ys
 have e : (⟨#[46]⟩ : Str).length = 1 := rfl
 rw [e] at this
 omega
end Mine
namespace L2
open PySem PySem.Spec PyProof.Rows
section
variable {X : Cx}
theorem CZ {ys : List Str} : ∀ {us : List Value}, Vals (ys.map V.str) us -> StrsAre us ys := by
 induction ys with
 | nil => intro us r; rw [map_nil] at r; cases r; exact .nil
 | cons y ys ih =>
  intro us r
  rw [map_cons] at r
  cases r with
  | cons r1 r2 =>
   obtain ⟨t, e⟩ := r1
   subst e
   exact .cons y t (ih r2)
theorem wg : ∀ (l : List (Str × Tok)), Vals ((l.map (·.1)).map V.str) (strValues l)
 | [] => .nil
 | (y, t) :: l => .cons ⟨t, rfl⟩ (wg l)
def rJoin (K : Frag) : V -> List V -> Hp -> VK -> Prop := fun x vs H Q => ∃ sep p ys, x = .str sep /\ vs = [.ref p] /\ (SqL K H p (ys.map V.str) \/ SqT K H p (ys.map V.str)) /\
 (ys.map (·.length)).sum + ys.length * sep.length <= 16777216 /\ Q (.str (Txt.join sep ys)) H
theorem jX : MtR X "str.join" (rJoin X.K) := by
 intro pins s σ H x vs v us Q I rx rv h
 obtain ⟨sep, p, ys, rfl, rfl, hq, hz, q⟩ := h
 obtain ⟨t, rfl⟩ := rx
 obtain ⟨u, rfl, ru⟩ := vals1 rv
 cases (show u = Value.ref p from ru)
 rcases hq with hq | hq
 ·obtain ⟨its, r, pl, _⟩ := I.list hq
  exact join_list pl.isList (by simpa using CZ r) hz fun t' k => ⟨.str _, H, I.tok k, ⟨t', rfl⟩, q⟩
 ·obtain ⟨its, r, pl, _⟩ := I.tuple hq
  exact join_tuple pl (by simpa using CZ r) hz fun t' k => ⟨.str _, H, I.tok k, ⟨t', rfl⟩, q⟩
def MN : V -> List V -> Hp -> VK -> Prop := fun x vs H Q => ∃ z sep, x = .str z /\ vs = [.str sep] /\ (sep.length == 0) = false /\ z.length + 2 <= sizeLine /\
 ∀ p, H p = none -> Q (.ref p) (upd H p (.lst ((Txt.split z sep).map V.str)))
theorem Ey (z sep : Str) (h : z.length + 2 <= sizeLine) : (Txt.split z sep).length <= sizeLine := by
 unfold Txt.split
 split
 ·simp; omega
 ·split
  ·simp; omega
  ·have e1 := StrLaws.occ_length_le z sep 0 z.length (z.length + 1)
   rw [length_partsBetween]; omega
theorem lJ : MtR X "str.split" MN := by
 intro pins s σ H x vs v us Q I rx rv h
 obtain ⟨z, sep, rfl, rfl, hy, hz, q⟩ := h
 obtain ⟨t, rfl⟩ := rx
 obtain ⟨u, rfl, ru⟩ := vals1 rv
 obtain ⟨t2, rfl⟩ := ru
 have fin : ∀ (l : List (Str × Tok)) (k : Nat), l.map (·.1) = Txt.split z sep ->
   EP X pins σ Q (.ref s.heap.objs.size) { s with heap := s.heap.push { cls := .type "list", data := .seq (strValues l).toArray }, toks := k } := fun l k e => by
  have hv := wg l
  rw [e] at hv
  exact ⟨.ref s.heap.objs.size, _, I.lnew hv (by rw [length_map]; exact Ey z sep hz), rfl, q _ I.fresh⟩
 have few : (Builtin.Str.partsBetween z (Builtin.Str.occurrences z sep 0 z.length (z.length + 1)) sep.length).length <= sizeLine := by
  have e1 := StrLaws.occ_length_le z sep 0 z.length (z.length + 1)
  rw [length_partsBetween]; omega
 cases h1 : (decide (z.length < sep.length) || decide (Builtin.Str.strKind z < Builtin.Str.strKind sep))
 ·cases hf : (Builtin.Str.occurrences z sep 0 z.length (z.length + 1)).isEmpty
  ·refine call_meets F.slot_str_split (typeIs_str _ _ _) F.entry_str_split (F.args_str_split_2 _ _) (meets_str_split_sep z sep t t2 h1 hy hf Z1 few) ?_
   rw [strsFrom_eq]
   exact fin (numbered s.toks _) _ ((numbered_texts _ _).trans (by unfold Txt.split; rw [if_neg (by rw [h1]; exact Bool.false_ne_true), if_neg (by rw [hf]; exact Bool.false_ne_true)]))
  ·refine call_meets F.slot_str_split (typeIs_str _ _ _) F.entry_str_split (F.args_str_split_2 _ _) (meets_str_split_not_found z sep t t2 h1 hy hf) ?_
   exact fin [(z, t)] s.toks (by unfold Txt.split; rw [if_neg (by rw [h1]; exact Bool.false_ne_true), if_pos hf] <;> rfl)
 ·refine call_meets F.slot_str_split (typeIs_str _ _ _) F.entry_str_split (F.args_str_split_2 _ _) (meets_str_split_cannot_occur z sep t t2 h1) ?_
  exact fin [(z, t)] s.toks (by unfold Txt.split; rw [if_pos h1] <;> rfl)
def NQ : V -> List V -> Hp -> VK -> Prop := fun x vs H Q => ∃ z sep, x = .str z /\ vs = [.str sep] /\ (sep.length == 0) = false /\ z.length <= sizeLine /\
 ∀ p, H p = none -> Q (.ref p) (upd H p (.tup [.str (Txt.rpartition z sep).1, .str (Txt.rpartition z sep).2.1, .str (Txt.rpartition z sep).2.2]))
theorem Inv.tnew {pins : OP} {σ : St} {H : Hp} {s : Shared} {ys : List V} {its : List Value} {t' : Nat} (I : Inv X pins σ H s) (hv : Vals ys its) (hz : ys.length <= sizeLine) :
  Inv X pins σ (upd H s.heap.objs.size (.tup ys)) { s with heap := s.heap.push { cls := .type "tuple", data := .seq its.toArray }, toks := t' } :=
 I.laid (fun b o e => Heap.get?_push_of_some _ e) (le_refl _) (show bY X.prog X.w _ _ _ (.tup ys) from ⟨hz, its, hv, IsTup.new _ _⟩)
theorem uw (a b c : Str) (t u v : Tok) : Vals [.str a, .str b, .str c] [.str a t, .str b u, .str c v] := .cons ⟨t, rfl⟩ (.cons ⟨u, rfl⟩ (.cons ⟨v, rfl⟩ .nil))
theorem Af : MtR X "str.rpartition" NQ := by
 intro pins s σ H x vs v us Q I rx rv h
 obtain ⟨z, sep, rfl, rfl, hy, hz, q⟩ := h
 obtain ⟨t, rfl⟩ := rx
 obtain ⟨u, rfl, ru⟩ := vals1 rv
 obtain ⟨t2, rfl⟩ := ru
 refine call_meets F.slot_str_rpartition (typeIs_str _ _ _) F.entry_str_rpartition (F.args_str_rpartition_2 _ _) (meets_str_rpartition z sep t t2 hy hz) ?_
 have q' := q
 unfold Txt.rpartition at q'
 revert q'
 cases Builtin.Str.lastOccurrence z sep 0 z.length with
 | none => intro q'; exact ⟨.ref s.heap.objs.size, _, I.tnew (uw _ _ _ _ _ _) (by show 3 <= sizeLine; decide), rfl, q' _ I.fresh⟩
 | some i => intro q'; exact ⟨.ref s.heap.objs.size, _, I.tnew (uw _ _ _ _ _ _) (by show 3 <= sizeLine; decide), rfl, q' _ I.fresh⟩
end
theorem yJ {env : Env} : ∀ (ns : List (Str × NameKind)) (acc : List (Str × Addr)), (∀ y ∈ ns, y.2 = .free -> ∃ c, env.cells.lookup y.1 = some c) -> (∀ p ∈ acc, env.cells.lookup p.1 = some p.2) ->
  ∃ cl : List (Str × Addr), (forIn ns acc fun (y : Str × NameKind) (cs : List (Str × Addr)) => (match y with
   | (name, kind) => if (kind == NameKind.free) = true then (do let c <- cellOf env name; pure (ForInStep.yield ((name, c) :: cs))) else pure (ForInStep.yield cs) : Sem (ForInStep (List (Str × Addr))))) = pure cl /\
   (∀ p ∈ cl, env.cells.lookup p.1 = some p.2) /\ (∀ p ∈ acc, p ∈ cl) /\ ∀ y ∈ ns, y.2 = .free -> ∃ c, (y.1, c) ∈ cl
 | [], acc, _, ha => ⟨acc, rfl, ha, fun _ h => h, fun _ h => nomatch h⟩
 | (n, k) :: r, acc, hn, ha => by
  have hr : ∀ y ∈ r, y.2 = .free -> ∃ c, env.cells.lookup y.1 = some c := fun y hy => hn y (mem_cons_of_mem _ hy)
  by_cases hk : k = NameKind.free
  ·subst hk
   obtain ⟨c, hc⟩ := hn (n, .free) mem_cons_self rfl
   have hc' : env.cells.lookup n = some c := hc
   obtain ⟨cl, e, h1, h2, h3⟩ := yJ r ((n, c) :: acc) hr (fun p hp => by
    rcases mem_cons.mp hp with rfl | hp
    ·exact hc'
    ·exact ha p hp)
   refine ⟨cl, ?_, h1, fun p hp => h2 p (mem_cons_of_mem _ hp), fun y hy hf => ?_⟩
   ·rw [forIn_cons]
    have e1 : cellOf env n = pure c := by unfold cellOf; rw [hc']
    simp only [beq_self_eq_true, if_true, e1, pure_bind]
    exact e
   ·rcases mem_cons.mp hy with rfl | hy
    ·exact ⟨c, h2 _ mem_cons_self⟩
    ·exact h3 y hy hf
  ·obtain ⟨cl, e, h1, h2, h3⟩ := yJ r acc hr ha
   refine ⟨cl, ?_, h1, h2, fun y hy hf => ?_⟩
   ·rw [forIn_cons]
    have hb : (k == NameKind.free) = false := by simpa using hk
    simp only [hb, Bool.false_eq_true, if_false, pure_bind]
    exact e
   ·rcases mem_cons.mp hy with rfl | hy
    ·exact absurd hf hk
    ·exact h3 y hy hf
theorem w6 {α : Type} : ∀ {l : List (Str × α)} {x : Str} {c : α}, (x, c) ∈ l -> ∃ d, l.lookup x = some d
 | [], _, _, h => nomatch h
 | (y, d) :: r, x, c, h => by
  by_cases e : x = y
  ·subst e; exact ⟨d, by simp [lookup_cons]⟩
  ·have hb : (x == y) = false := by simpa using e
   rcases mem_cons.mp h with z | z
   ·cases z; exact absurd rfl e
   ·obtain ⟨d', h'⟩ := w6 z
    exact ⟨d', by simp only [lookup_cons, hb]; exact h'⟩
theorem Js {scope : Scope} {env : Env} (h : ∀ y ∈ scope.names, y.2 = .free -> ∃ c, env.cells.lookup y.1 = some c) :
  ∃ cl : List (Str × Addr), closureFor scope env = pure cl /\ (∀ x c, cl.lookup x = some c -> env.cells.lookup x = some c) /\ ∀ x, (x, NameKind.free) ∈ scope.names -> ∃ c, cl.lookup x = some c := by
 obtain ⟨cl, e, h1, _, h3⟩ := yJ (env := env) scope.names [] h (fun p hp => nomatch hp)
 refine ⟨cl, ?_, fun x c q => h1 (x, c) (PySem.mem_of_lookup q), fun x hx => ?_⟩
 ·simp only [closureFor]
  simp only [bind_pure]
  exact e
 ·obtain ⟨c, hc⟩ := h3 (x, .free) hx rfl
  exact w6 hc
def pX (osc sc : Scope) (oN : List Str) : List (Option Nat) -> List Str -> Bool
 | [], [] => true
 | none :: r, _ :: n => pX osc sc oN r n
 | some k :: r, x :: n => (oN[k]? == some x) && (sc.names.lookup x == some .free) && pX osc sc oN r n
 | _, _ => false
theorem vD {osc sc : Scope} {oN : List Str} : ∀ {ix : List (Option Nat)} {N : List Str}, pX osc sc oN ix N = true -> ix.length = N.length
 | [], [], _ => rfl
 | none :: _, _ :: _, h => congrArg (· + 1) (vD (by simpa [pX] using h))
 | some _ :: _, _ :: _, h => congrArg (· + 1) (vD (by simp [pX] at h; exact h.2))
 | [], _ :: _, h => by simp [pX] at h
 | none :: _, [], h => by simp [pX] at h
 | some _ :: _, [], h => by simp [pX] at h
theorem yF {osc sc : Scope} {oN : List Str} : ∀ {ix : List (Option Nat)} {N : List Str} (i k : Nat), pX osc sc oN ix N = true -> ix[i]? = some (some k) -> ∃ x, N[i]? = some x /\ oN[k]? = some x /\ sc.names.lookup x = some .free
 | [], _, _, _, _, e => by simp at e
 | none :: _, [], _, _, h, _ => by simp [pX] at h
 | some _ :: _, [], _, _, h, _ => by simp [pX] at h
 | none :: r, x :: n, 0, _, _, e => by simp at e
 | none :: r, x :: n, i + 1, k, h, e => by
  obtain ⟨y, h1, h2⟩ := yF (ix := r) (N := n) i k (by simpa [pX] using h) (by simpa using e)
  exact ⟨y, by simpa using h1, h2⟩
 | some j :: r, x :: n, 0, k, h, e => by
  simp [pX] at h
  simp at e
  subst e
  exact ⟨x, Z2, h.1.1, h.1.2⟩
 | some j :: r, x :: n, i + 1, k, h, e => by
  simp [pX] at h
  obtain ⟨y, h1, h2⟩ := yF (ix := r) (N := n) i k h.2 (by simpa using e)
  exact ⟨y, by simpa using h1, h2⟩
def oK (osc : Scope) (oN N : List Str) (ix : List (Option Nat)) (sc : Scope) : Bool :=
 (sc.kind == .function) && sc.names.all (fun y => (y.2 != .cell) && ((y.2 != .local) || (sc.names.lookup y.1 == some .local)) && ((y.2 != .free) || ((osc.names.lookup y.1 == some .cell) || (osc.names.lookup y.1 == some .free)))) && pX osc sc oN ix N
theorem vq {env : Env} : ∀ {names : List (Str × NameKind)} {x : Str}, names.lookup x = some .free ->
  (names.map fun (n, k) => if (k == NameKind.free && env.scope.kind == .function && env.kindOf n == some .cell) then (n, NameKind.cell) else (n, k)).lookup x = some .cell \/
  (names.map fun (n, k) => if (k == NameKind.free && env.scope.kind == .function && env.kindOf n == some .cell) then (n, NameKind.cell) else (n, k)).lookup x = some .free
 | [], _, h => by simp at h
 | (n, k) :: r, x, h => by
  have ih := @vq env r x
  simp only [map_cons]
  cases hx : x == n with
  | true =>
   simp only [lookup_cons, hx] at h
   cases h
   by_cases hc : (NameKind.free == NameKind.free && env.scope.kind == .function && env.kindOf n == some .cell) = true
   ·left; rw [if_pos hc]; simp only [lookup_cons, hx]
   ·right; rw [if_neg hc]; simp only [lookup_cons, hx]
  | false =>
   simp only [lookup_cons, hx] at h
   by_cases hc : (k == NameKind.free && env.scope.kind == .function && env.kindOf n == some .cell) = true
   ·rw [if_pos hc]; simp only [lookup_cons, hx]; exact ih h
   ·rw [if_neg hc]; simp only [lookup_cons, hx]; exact ih h
theorem uM {env : Env} : ∀ {names : List (Str × NameKind)} {x : Str}, (∀ y ∈ names, y.2 ≠ NameKind.cell) ->
  ((names.map fun (n, k) => if (k == NameKind.free && env.scope.kind == .function && env.kindOf n == some .cell) then (n, NameKind.cell) else (n, k)).lookup x = some .cell \/
  (names.map fun (n, k) => if (k == NameKind.free && env.scope.kind == .function && env.kindOf n == some .cell) then (n, NameKind.cell) else (n, k)).lookup x = some .free) -> (x, NameKind.free) ∈ names
 | [], _, _, h => by simp at h
 | (n, k) :: r, x, hn, h => by
  have ih := @uM env r x fun y hy => hn y (mem_cons_of_mem _ hy)
  simp only [map_cons] at h
  by_cases hc : (k == NameKind.free && env.scope.kind == .function && env.kindOf n == some .cell) = true
  ·rw [if_pos hc] at h
   cases hx : x == n with
   | true =>
    have e : x = n := by simpa using hx
    have e2 : k = NameKind.free := by simp at hc; exact hc.1.1
    subst e; subst e2
    exact mem_cons_self
   | false =>
    simp only [lookup_cons, hx] at h
    exact mem_cons_of_mem _ (ih h)
  ·rw [if_neg hc] at h
   cases hx : x == n with
   | true =>
    have e : x = n := by simpa using hx
    subst e
    simp only [lookup_cons, hx] at h
    rcases h with h | h
    ·cases h; exact absurd rfl (hn (x, .cell) mem_cons_self)
    ·cases h; exact mem_cons_self
   | false =>
    simp only [lookup_cons, hx] at h
    exact mem_cons_of_mem _ (ih h)
def blk (X : Cx) (N : List Str) (sc : Scope) (cl : List (Str × Addr)) (C : Addr) (fp : List Addr) (s : Shared) (H : Hp) : Cx :=
 { X with N := N, s₀ := s, H₀ := H, env := compEnvC sc cl C X.env, outer := X.stack, ex := fp, fn := fun _ => false, pn := [], xe := fun _ _ => False }
def lift (ix : List (Option Nat)) (σ : St) : St := ix.map fun o => o.bind fun k => (σ[k]?).bind id
def PF (X : Cx) (ifs : List Expr) (t : TT) : Prop :=
 ∀ (pins : OP) (s : Shared) (σ : St) (H : Hp) (Q : Bool -> Hp -> Prop), Inv X pins σ H s -> t σ H Q ->
  wpAny (model X.prog X.w) X.A (forIn ifs true fun c r => if r = true then do let ok <- isTrue c X.env (eval c X.env); pure (ForInStep.yield ok) else pure (ForInStep.yield r)) (TP X pins σ Q) X.xe s
def Cv : TT := fun _ H Q => Q true H
theorem bL {X : Cx} : PF X [] Cv := fun pins s σ H Q I h => wpAny_tests_nil ⟨H, I, h⟩
theorem lA {X : Cx} {c : Expr} {t : TT} (hc : PT X c t) : PF X [c] t := fun pins s σ H Q I h => wpAny_tests_one (hc pins s σ H Q I h)
def qN (g : TG) (tf : TT) (te : TE) (J : It) (σ0 : St) (H1 : Hp) (Fin : List V -> Hp -> Prop) : Prop :=
 ∃ W : Nat -> Nat -> St -> List V -> Hp -> Prop, (∃ m, W 0 m σ0 [] H1) /\ ∀ i m τ ys H, W i m τ ys H ->
  (J.stop i H /\ Fin ys H) \/ (J.go i H /\ ∀ x H', J.yld i H x H' -> g x τ H' fun τ2 H2 => tf τ2 H2 fun b H3 =>
   if b = true then te τ2 H3 fun y H4 => ys.length < sizeLine /\ ∃ m', m' < m /\ W (i + 1) m' τ2 (ys ++ [y]) H4 else ∃ m', m' < m /\ W (i + 1) m' τ2 ys H3)
def GQ (ix : List (Option Nat)) (wi : TI) (g : TG) (tf : TT) (te : TE) : TE := fun σ H Q => wi σ H fun J H1 => qN g tf te J (lift ix σ) H1 fun ys H' => ∀ p, H' p = none -> Q (.ref p) (upd H' p (.lst ys))
theorem Qw {P : Program} {w : World} {A : Around} {R : Result -> Shared -> Prop} {s : Shared} {el tg src : Expr} {fs : List Expr} {sc : Scope} {ps : Pos} {iv ac : Value} {en : Env} (J : Nat -> Shared -> Prop)
  (turn : ∀ n s, J n s -> wpAny (model P w) A (pyNext iv) (fun r s1 => match r with
   | none => R (.ok .next) s1
   | some v => wpAny (model P w) A (letOwnedTupleGo tg iv v) (fun _ s2 => wpAny (model P w) A (assign tg en v) (fun _ s3 =>
     wpAny (model P w) A (forIn fs true fun c r => if r = true then do let ok <- isTrue c en (eval c en); pure (ForInStep.yield ok) else pure (ForInStep.yield r)) (fun ok s4 =>
      if ok = true then wpAny (model P w) A (eval el en) (fun x s5 => wpAny (model P w) A (call (.builtin "list.append") [ac, x]) (fun _ s6 => ∃ m, m < n /\ J m s6) (fun _ _ => False) s5) (fun _ _ => False) s4
      else ∃ m, m < n /\ J m s4) (fun _ _ => False) s3) (fun _ _ => False) s2) (fun _ _ => False) s1) (fun _ _ => False) s)
  (n : Nat) (h : J n s) : codeAny (model P w) A (.compLoop (.ListComp el [⟨tg, src, fs, 0⟩] sc ps) 0 iv ac en) R s := by
 have ab : ∀ {α : Type} {t : Sem α} {Q Q' : α -> Shared -> Prop} {E : EV} {s : Shared}, wpAny (model P w) A t Q (fun _ _ => False) s -> (∀ a s, Q a s -> Q' a s) -> wpAny (model P w) A t Q' E s :=
  fun h hq => wpAny_mono h hq fun _ _ f => f.elim
 refine codeAny_loop rfl J (fun n s hJ => ?_) n h
 show wpAny _ A ((compTurn (.ListComp el [⟨tg, src, fs, 0⟩] sc ps) 0 iv ac en).onRaise (fun x => do noteFrame x en; theTreesLotGoes x)) _ _ s
 refine wpAny_noted ?_
 rw [compTurn_list]
 refine wpAny_bind (wpAny_standAt (wpAny_bind (ab (turn n s hJ) fun r s1 h1 => ?_)))
 cases r with
 | none => exact wpAny_pure h1
 | some v =>
  refine wpAny_bind (ab h1 fun _ s2 h2 => wpAny_bind (ab h2 fun _ s3 h3 => wpAny_bind (ab h3 fun ok s4 h4 => ?_)))
  cases ok with
  | false => exact wpAny_pure ⟨rfl, h4⟩
  | true => exact wpAny_bind (wpAny_bind (ab h4 fun x s5 h5 => wpAny_bind (ab h5 fun _ s6 h6 => wpAny_pure (wpAny_pure ⟨rfl, h6⟩))))
section
variable {X : Cx} {pins : OP} {σ : St} {H2 : Hp} {s2 : Shared} {N : List Str} {ix : List (Option Nat)} {sc : Scope} {cl : List (Str × Addr)}
theorem Mh (I : Inv X pins σ H2 s2) (hb : oK X.env.scope X.N N ix sc = true) (c1 : ∀ x c, cl.lookup x = some c -> X.env.cells.lookup x = some c) (c2 : ∀ x, (x, NameKind.free) ∈ sc.names -> ∃ c, cl.lookup x = some c)
  {fp : List Addr} (hf : ∀ b ∈ fp, vU X pins H2 b) (hfo : ∀ b ∈ fp, ∃ o, s2.heap.get? b = some o) {C : Addr} (hC : s2.heap.objs.size <= C) : (blk X N sc cl C fp s2 H2).Ok := by
 unfold oK at hb
 simp only [and_eq_true] at hb
 obtain ⟨⟨hk, hn⟩, hi⟩ := hb
 have nocell : ∀ y ∈ sc.names, y.2 ≠ NameKind.cell := fun y hy => by
  have := all_eq_true.mp hn y hy
  simp only [and_eq_true] at this
  simpa using this.1.1
 refine ⟨I.ok.mod, ?_, I.ok.glob, I.ok.blt, hC, fun x y c h1 h2 => I.ok.inj x y c (c1 x c h1) (c1 y c h2), fun x hx => ?_, fun x c hx => ?_, I.ok.hd, I.ok.frames, .inl rfl, fun b hb => ⟨?_, fun x c h => ?_⟩, I.bs, le_trans I.ok.bsz I.sz, fun b o e hb => ?_, fun b hb hs => ?_, I.stack, I.stkFree⟩
 ·show (relabel sc X.env).kind = .function
  exact eq_of_beq hk
 ·exact c2 x (uM nocell hx)
 ·cases hx
 ·show b ≠ C
  obtain ⟨o, e⟩ := hfo b hb
  exact ne_of_lt (lt_of_lt_of_le (Heap.lt_size e) hC)
 ·obtain ⟨_, _, _, _, h5, _⟩ := hf b hb
  exact h5 x c (c1 x c h)
 ·obtain ⟨_, _, _, h4, _, _⟩ := hf b hb
  rcases h4 with h4 | h4
  ·exact I.ok.noex b o e h4
  ·exact absurd (lt_of_lt_of_le (Heap.lt_size (I.ok.bs b o e).1) h4) (lt_irrefl _)
 ·obtain ⟨_, h2, h3, _⟩ := hf b hb
  rcases mem_cons.mp (I.stkSub b hs) with z | z
  ·exact h2 z
  ·exact h3 z
theorem Un.grow {fs ex : List Addr} {H H' : Hp} {h h' : Heap} {D : Addr} {o : HO} (u : Un fs ex H H' h h') (hD : h.objs.size <= D) (hn : H D = none) : Un fs ex H (upd H' D o) h h' := by
 have lt : ∀ {b : Addr} {ob : Obj}, h.get? b = some ob -> b ≠ D := fun e z => by
  subst z; exact absurd (lt_of_lt_of_le (Heap.lt_size e) hD) (lt_irrefl _)
 refine ⟨u.keep, u.slot, fun b ob e n hx => by rw [aK (lt e)]; exact u.free b ob e n hx, u.there, fun b xs e => ?_, fun b ob v e => ?_, fun b ps e => ?_⟩
 ·rw [aK (aD e hn)]; exact u.tups b xs e
 ·rw [aK (aD e hn)]; exact u.frzs b ob v e
 ·obtain ⟨m, q⟩ := u.tbls b ps e
  exact ⟨m, by rw [aK (aD e hn)]; exact q⟩
theorem HOk.grow {P : Program} {w : World} {H : Hp} {h : Heap} {D : Addr} {o : HO} (x : HOk P w H h) (hn : H D = none) (new : bY P w (upd H D o) h D o) : HOk P w (upd H D o) h := fun b u e => by
 by_cases hb : b = D
 ·subst hb; rw [ak] at e; cases e; exact new
 ·rw [aK hb] at e
  exact (x b u e).stay (fun _ _ _ q => q) (fun c q => by rw [aK (aD q hn)]; exact q) fun c xs q => by rw [aK (aD q hn)]; exact q
theorem JR {ix : List (Option Nat)} {σ : St} {i : Nat} {v : V} (h : (lift ix σ)[i]? = some (some v)) : ∃ k, ix[i]? = some (some k) /\ σ[k]? = some (some v) := by
 unfold lift at h
 rw [getElem?_map] at h
 cases e : ix[i]? with
 | none => rw [e] at h; cases h
 | some o =>
  rw [e] at h
  cases o with
  | none => simp at h
  | some k =>
   refine ⟨k, rfl, ?_⟩
   simp only [map_some, bind_some, Option.some.injEq] at h
   cases q : σ[k]? with
   | none => rw [q] at h; cases h
   | some z => rw [q] at h; have h' : z = some v := h; rw [h']
theorem wY {el tg src : Expr} {ifs : List Expr} {pos : Pos} {g : TG} {tf : TT} {te : TE} {J : It} {fp : List Addr} {it : Addr} {tn : Nat -> Heap -> Prop} {E : EV} {Fin : List V -> Hp -> Prop} {RR : Value -> Addr -> Result -> Shared -> Prop}
  (I : Inv X pins σ H2 s2) (hc : X.calm = true) (hb : oK X.env.scope X.N N ix sc = true) (c1 : ∀ x c, cl.lookup x = some c -> X.env.cells.lookup x = some c) (c2 : ∀ x, (x, NameKind.free) ∈ sc.names -> ∃ c, cl.lookup x = some c)
  (T : Turn X.prog X.w X.K tg J fp it tn) (st : tn 0 s2.heap) (hf : ∀ b ∈ fp, vU X pins H2 b)
  (hg : ∀ C fp, PG (blk X N sc cl C fp s2 H2) tg g) (hfs : ∀ C fp, PF (blk X N sc cl C fp s2 H2) ifs tf) (he : ∀ C fp, PE (blk X N sc cl C fp s2 H2) el te)
  (hW : qN g tf te J (lift ix σ) H2 Fin)
  (hRR : ∀ D C s' ys H', H' D = none -> (∃ m, s'.heap.Ns C m) -> Inv X pins σ (upd H' D (.lst ys)) s' -> vU X pins (upd H' D (.lst ys)) C -> Fin ys H' -> RR (.ref D) C (.ok .next) s') :
  wpAny (model X.prog X.w) X.A (newList []) (fun acc s3 => wpAny (model X.prog X.w) X.A (newFunctionEnv sc X.env.globals cl [] X.env.qual none .none (some X.env)) (fun cenv s4 =>
   codeAny (model X.prog X.w) X.A (.compStart (.ListComp el [⟨tg, src, ifs, 0⟩] sc pos) 0 (.ref it) acc { cenv with scope := relabel sc X.env }) (RR acc cenv.locals) s4) E s3) E s2 := by
 obtain ⟨W, ⟨m0, w0⟩, turn⟩ := hW
 have hb' := hb
 unfold oK at hb'
 simp only [and_eq_true] at hb'
 obtain ⟨⟨hk, hn⟩, hi⟩ := hb'
 have nocell : ∀ y ∈ sc.names, y.2 ≠ NameKind.cell := fun y hy => by
  have := all_eq_true.mp hn y hy
  simp only [and_eq_true] at this
  simpa using this.1.1
 have hkind : sc.kind = .function := eq_of_beq hk
 refine wpAny_newObj_type (wpAny_newFunctionEnv nocell (by intro y hy; simp at hy) (fun h1 hns hsb => ?_) hkind)
 dsimp only at hns hsb ⊢
 generalize hP : s2.heap.push { cls := .type "list", dict := none, data := .seq ([] : List Value).toArray } = P2 at hns hsb ⊢
 have hC : P2.objs.size = s2.heap.objs.size + 1 := by rw [<- hP, Heap.size_push]
 have hDC : s2.heap.objs.size ≠ P2.objs.size := by rw [hC]; exact ne_of_lt (Nat.lt_succ_self _)
 have hCle : s2.heap.objs.size <= P2.objs.size := by rw [hC]; omega
 have fpo : ∀ b ∈ fp, ∃ o, s2.heap.get? b = some o := fun b hb => let ⟨o, e, _⟩ := T.obj _ _ st b hb; ⟨o, e⟩
 have old : ∀ b o, s2.heap.get? b = some o -> h1.get? b = some o := fun b o e => by
  refine (hsb.2 b ?_).trans (Heap.get?_push_of_some _ (hP ▸ Heap.get?_push_of_some _ e))
  rw [hC]; exact ne_of_lt (Nat.lt_succ_of_lt (Heap.lt_size e))
 have hacc : h1.get? s2.heap.objs.size = some { cls := .type "list", dict := none, data := .seq ([] : List Value).toArray } :=
  (hsb.2 _ hDC).trans (Heap.get?_push_of_some _ (hP ▸ Heap.get?_push_size _ rfl))
 have bok : (blk X N sc cl P2.objs.size fp s2 H2).Ok := Mh I hb c1 c2 hf fpo hCle
 have frD : ∀ {b : Addr}, s2.heap.objs.size <= b -> b ∉ frs X.stack := fun hb hz => by
  rcases mem_cons.mp (I.stkSub _ hz) with z | z
  ·exact absurd (z ▸ hb) (Nat.not_le.mpr I.lt)
  ·exact I.nofs hb z
 have cellD : ∀ x c, cl.lookup x = some c -> c < s2.heap.objs.size := fun x c e => by
  obtain ⟨v, q⟩ := I.cell x c (c1 x c e)
  exact q.lt
 have I0 : Inv (blk X N sc cl P2.objs.size fp s2 H2) [(s2.heap.objs.size, { cls := .type "list", dict := none, data := .seq ([] : List Value).toArray })] (lift ix σ) H2 { s2 with heap := h1, toks := s2.toks + ([] : List (Str × Value)).length } := by
  refine ⟨bok, rfl, I.bare, Un.kept old, ⟨_, hns, fun i x v e1 e2 e3 => ?_⟩, fun x c e => ?_, I.hok.fresh hCle, fun x c e => I.freeC x c (c1 x c e), fun p hp => ?_, I.hok.kept old, ?_⟩
  ·obtain ⟨k, q1, q2⟩ := JR e2
   obtain ⟨y, z1, z2, z3⟩ := yF i k hi q1
   have e1' : N[i]? = some x := e1
   rw [e1'] at z1
   cases z1
   have hin : (x, NameKind.free) ∈ sc.names := PySem.mem_of_lookup z3
   obtain ⟨c, hcl⟩ := c2 x hin
   have okind : X.env.scope.names.lookup x = some .cell \/ X.env.scope.names.lookup x = some .free := by
    have := all_eq_true.mp hn _ hin
    simp only [and_eq_true] at this
    simpa using this.2
   obtain ⟨m, hm, hl⟩ := I.loc
   obtain ⟨u, r, l⟩ := hl k x v z2 q2 (by rcases okind with z | z; exact .inr (.inl z); exact .inr (.inr z))
   refine ⟨u, r, .inr ⟨vq z3, c, hcl, ?_⟩⟩
   rcases l with ⟨lk, _⟩ | ⟨_, c', hc', z⟩
   ·have lk' : X.env.scope.names.lookup x = some .local := lk
    rcases okind with q | q <;> rw [q] at lk' <;> cases lk'
   ·rw [c1 x c hcl] at hc'
    cases hc'
    obtain ⟨oc, ho, hd⟩ := z
    exact ⟨oc, old _ _ ho, hd⟩
  ·obtain ⟨v, oc, ho, hd⟩ := I.cell x c (c1 x c e)
   exact ⟨v, oc, old _ _ ho, hd⟩
  ·have hp' : p = (s2.heap.objs.size, { cls := .type "list", dict := none, data := .seq ([] : List Value).toArray }) := by
    rcases mem_append.mp hp with z | z
    ·exact absurd (show p ∈ ([] : OP) from z) Z2
    ·simpa using z
   subst hp'
   exact ⟨hacc, I.fresh, hDC, frD (le_refl _), fun v z => by cases z⟩
  ·show (lift ix σ).length = N.length
   unfold lift
   rw [length_map]
   exact vD hi
 have stat : ∀ {o : Obj} {H' : Hp}, (∀ b ∈ fp, H' b = none) -> ∀ b ∈ fp, vU (blk X N sc cl P2.objs.size fp s2 H2) [(s2.heap.objs.size, o)] H' b := fun {o H'} hz b hb => by
  obtain ⟨_, g2, g3, g4, g5, g6⟩ := hf b hb
  obtain ⟨ob, eb⟩ := fpo b hb
  have lb := Heap.lt_size eb
  refine ⟨hz b hb, ?_, ?_, .inl hb, fun x c e => g5 x c (c1 x c e), fun p hp => ?_⟩
  ·show b ≠ P2.objs.size
   rw [hC]; exact ne_of_lt (Nat.lt_succ_of_lt lb)
  ·intro hz
   rcases mem_cons.mp (I.stkSub b hz) with z | z
   ·exact g2 z
   ·exact g3 z
  ·have hp' : p = (s2.heap.objs.size, o) := by
    rcases mem_append.mp hp with z | z
    ·exact absurd (show p ∈ ([] : OP) from z) Z2
    ·simpa using z
   subst hp'
   show s2.heap.objs.size ≠ b
   exact ne_of_gt lb
 have loop : ∀ s4 : Shared, s4 = { s2 with heap := h1, toks := s2.toks + ([] : List (Str × Value)).length } ->
   codeAny (model X.prog X.w) X.A (.compLoop (.ListComp el [⟨tg, src, ifs, 0⟩] sc pos) 0 (.ref it) (.ref s2.heap.objs.size) (compEnvC sc cl P2.objs.size X.env)) (RR (.ref s2.heap.objs.size) P2.objs.size) s4 := by
  rintro s4 rfl
  refine Qw (fun n s' => ∃ (i : Nat) (τ : St) (ys : List V) (its : List Value) (k : Nat) (H' : Hp), Vals ys its /\ ys.length <= sizeLine /\
    Inv (blk X N sc cl P2.objs.size fp s2 H2) [(s2.heap.objs.size, { cls := .type "list", data := .seq its.toArray k })] τ H' s' /\ tn i s'.heap /\ (∀ b ∈ fp, H' b = none) /\ W i n τ ys H') ?_ m0
   ⟨0, _, [], [], 0, H2, .nil, zero_le _, I0, T.keep _ _ _ st fun b _ o e => old b o e, fun b hb => (hf b hb).1, w0⟩
  rintro n s5 ⟨i, τ, ys, its, k, H5, rv, hz, I5, st5, fr5, w5⟩
  rcases turn i n τ ys H5 w5 with ⟨stop, fin⟩ | ⟨go, step⟩
  ·refine thn (T.done (blk X N sc cl P2.objs.size fp s2 H2) rfl rfl rfl hc i _ s5 τ H5 (fun _ _ => False) I5 (stat fr5) st5 stop) fun r s6 ⟨hr, I6⟩ => ?_
   subst hr
   obtain ⟨m, hns6, _⟩ := I6.loc
   obtain ⟨gD, fD, _, _, _⟩ := I6.pin (s2.heap.objs.size, { cls := .type "list", data := .seq its.toArray k }) (mem_append_right _ Z2)
   have fD' : H5 s2.heap.objs.size = none := fD
   refine hRR _ _ s6 ys H5 fD' ⟨m, hns6⟩ ?_ (I.fpOk hCle ?_) fin
   ·refine I.call' (ch := fp) I6.os (Un.grow I6.base (le_refl _) I.fresh) (HOk.grow I6.hok fD' ⟨hz, its, k, rv, gD⟩) I6.bare fun b hb => ?_
    obtain ⟨_, g2, _, g4, g5, g6⟩ := hf b hb
    exact ⟨g4, g2, g5, g6⟩
   ·rw [aK (Ne.symm hDC)]
    exact I6.free
  ·refine thn (T.item (blk X N sc cl P2.objs.size fp s2 H2) rfl rfl rfl hc i _ s5 τ H5 (fun _ _ => False) I5 (stat fr5) st5 go) fun r s6 ⟨u, hr, h6⟩ => ?_
   subst hr
   refine thn h6 fun _ s7 ⟨x, H7, I7, r7, y7, st7, fr7⟩ => ?_
   have I7' := I7.pinned (stat fr7) (T.obj _ _ st7)
   refine thn (hg _ _ _ s7 τ H7 x u _ I7' r7 (step x H7 y7)) fun _ s8 ⟨τ8, H8, I8, q8⟩ => ?_
   refine thn (hfs _ _ _ s8 τ8 H8 _ I8 q8) fun ok s9 ⟨H9, I9, q9⟩ => ?_
   have tail : ∀ {s' : Shared} {τ' : St} {H' : Hp}, Inv (blk X N sc cl P2.objs.size fp s2 H2) ([(s2.heap.objs.size, { cls := .type "list", data := .seq its.toArray k })] ++ uE fp s7.heap) τ' H' s' ->
     (s'.heap.get? s2.heap.objs.size = some { cls := .type "list", data := .seq its.toArray k } /\ H' s2.heap.objs.size = none) /\ (∀ b ∈ fp, ∀ o, s7.heap.get? b = some o -> s'.heap.get? b = some o) /\ ∀ b ∈ fp, H' b = none := fun {s' τ' H'} I' => by
    refine ⟨?_, fun b hb o e => (I'.pin (b, o) (mem_append_right _ (mem_append_right _ (mR hb e)))).1, fun b hb => ?_⟩
    ·obtain ⟨a1, a2, _⟩ := I'.pin (s2.heap.objs.size, { cls := .type "list", data := .seq its.toArray k }) (mem_append_right _ (mem_append_left _ Z2))
     exact ⟨a1, a2⟩
    ·obtain ⟨o, e, _⟩ := T.obj _ _ st7 b hb
     exact (I'.pin (b, o) (mem_append_right _ (mem_append_right _ (mR hb e)))).2.1
   cases ok with
   | false =>
    obtain ⟨m', hm, w9⟩ := q9
    obtain ⟨_, k2, k3⟩ := tail I9
    exact ⟨m', hm, i + 1, τ8, ys, its, k, H9, rv, hz, I9.unpinned, T.keep _ _ _ st7 k2, k3, w9⟩
   | true =>
    refine thn (he _ _ _ s9 τ8 H9 _ I9 q9) fun v s10 ⟨y, H10, I10, r10, hl, m', hm, w10⟩ => ?_
    obtain ⟨⟨gD, fD⟩, k2, k3⟩ := tail I10
    have hlen := rv.length
    refine call_meets F.slot_list_append ⟨_, gD, rfl⟩ F.entry_list_append (F.args_list_append_2 _ _) (PySem.list_append s2.heap.objs.size its.toArray k v (by rw [size_toArray]; omega)) ⟨gD, ?_⟩
    obtain ⟨k', q⟩ : ∃ k', (s10.heap.update s2.heap.objs.size (Obj.mapSeq (·.push v))).get? s2.heap.objs.size = some { cls := .type "list", data := .seq (its ++ [v]).toArray k' } := by
     have q := PySem.IsL.update gD (·.push v)
     rw [show (its.toArray.push v) = (its ++ [v]).toArray from by simp] at q
     exact ⟨_, q⟩
    have other : ∀ b o, b ≠ s2.heap.objs.size -> s10.heap.get? b = some o -> (s10.heap.update s2.heap.objs.size (Obj.mapSeq (·.push v))).get? b = some o := fun b o hb e => (Heap.get?_update_other s10.heap _ (Ne.symm hb)).trans e
    have Ia : Inv (blk X N sc cl P2.objs.size fp s2 H2) [] τ8 H10 { s10 with heap := s10.heap.update s2.heap.objs.size (Obj.mapSeq (·.push v)), toks := s10.toks } :=
     (I10.pins_of (pins' := []) fun p hp => nomatch hp).turned other fD hDC (.inr (le_refl _)) (fun x c e => ne_of_lt (cellD x c e)) fun p hp => absurd (show p ∈ ([] : OP) from hp) Z2
    refine ⟨m', hm, i + 1, τ8, ys ++ [y], its ++ [v], k', H10, rv.append (.cons r10 .nil), by rw [length_append, List.length_singleton]; omega, ?_, T.keep _ _ _ st7 fun b hb o e => ?_, k3, w10⟩
    ·refine Ia.pins_of fun p hp => ?_
     have hp' := mem_singleton.mp hp
     subst hp'
     exact ⟨q, fD, hDC, frD (le_refl _), fun v z => by cases z⟩
    ·obtain ⟨ob, eb⟩ := fpo b hb
     exact other b o (ne_of_lt (Heap.lt_size eb)) (k2 b hb o e)
 exact codeAny_compStart_list (loop _ rfl) (T.self X.A 0 _ _ _ (T.keep _ _ _ st fun b _ o e => old b o e) (loop _ rfl))
end
section
variable {X : Cx} {N : List Str} {ix : List (Option Nat)} {sc : Scope} {el tg src : Expr} {ifs : List Expr} {wi : TI} {g : TG} {tf : TT} {te : TE} {pos : Pos}
theorem Inv.clos {pins : OP} {σ : St} {H : Hp} {s : Shared} (I : Inv X pins σ H s) (hb : oK X.env.scope X.N N ix sc = true) :
  ∃ cl : List (Str × Addr), closureFor sc X.env = pure cl /\ (∀ x c, cl.lookup x = some c -> X.env.cells.lookup x = some c) /\ ∀ x, (x, NameKind.free) ∈ sc.names -> ∃ c, cl.lookup x = some c := by
 refine Js fun y hy hf => I.ok.has y.1 ?_
 unfold oK at hb
 simp only [and_eq_true] at hb
 have := all_eq_true.mp hb.1.2 y hy
 simp only [and_eq_true] at this
 have h2 := this.2
 rw [hf] at h2
 have h3 : X.env.scope.names.lookup y.1 = some .cell \/ X.env.scope.names.lookup y.1 = some .free := by simpa using h2
 exact h3
theorem wD (hb : oK X.env.scope X.N N ix sc = true) : sc.kind = .function /\ ∀ y ∈ sc.names, y.2 = .local -> sc.names.lookup y.1 = some .local := by
 unfold oK at hb
 simp only [and_eq_true] at hb
 refine ⟨eq_of_beq hb.1.1, fun y hy hl => ?_⟩
 have := all_eq_true.mp hb.1.2 y hy
 simp only [and_eq_true] at this
 have h2 := this.1.2
 rw [hl] at h2
 simpa using h2
theorem bF (ix : List (Option Nat)) (hc : X.calm = true) (hb : oK X.env.scope X.N N ix sc = true) (hi : PI X tg src wi)
  (hg : ∀ cl C fp s H, PG (blk X N sc cl C fp s H) tg g) (hf : ∀ cl C fp s H, PF (blk X N sc cl C fp s H) ifs tf) (he : ∀ cl C fp s H, PE (blk X N sc cl C fp s H) el te)
  (hs : ∀ x, foldedSetIterable src X.env x = pure x := by intro _; rfl) : PE X (.ListComp el [⟨tg, src, ifs, 0⟩] sc pos) (GQ ix wi g tf te) := by
 intro pins s σ H Q I h
 obtain ⟨cl, hcl, c1, c2⟩ := I.clos hb
 obtain ⟨hk, hn⟩ := wD hb
 rw [eval_ListComp]
 refine wpAny_comprehension_free (use := none) rfl hs hcl hk hn (thn (hi pins s σ H _ I h) fun xv s1 h1 => thn h1 fun itv s2 h2 => ?_)
 obtain ⟨it, fp, tn, J, H2, rfl, I2, T, st, f2, hW⟩ := h2
 refine wY (RR := fun acc C => compPost (model X.prog X.w) X.A X.xe none (EP X pins σ Q) acc C) I2 hc hb c1 c2 T st f2 (fun C fp => hg cl C fp s2 H2) (fun C fp => hf cl C fp s2 H2) (fun C fp => he cl C fp s2 H2) hW ?_
 intro D C s' ys H' hD ⟨m, hm⟩ I' fC fin
 refine ⟨m, hm, fun h' hs' => ⟨.ref D, _, ?_, rfl, fin D hD⟩⟩
 obtain ⟨g1, g2, _, g4, g5, g6⟩ := fC
 exact I'.turned (t' := s'.toks) (fun b o hb e => (hs'.2 b hb).trans e) g1 g2 g4 g5 g6
theorem Jp (ix : List (Option Nat)) {i : Nat} {x : Str} {pos' spos : Pos} (hN : X.N.Nodup) (hxi : X.N[i]? = some x) (hx : Loc X.env.scope x) (hc : X.calm = true) (hb : oK X.env.scope X.N N ix sc = true) (hi : PI X tg src wi)
  (hg : ∀ cl C fp s H, PG (blk X N sc cl C fp s H) tg g) (hf : ∀ cl C fp s H, PF (blk X N sc cl C fp s H) ifs tf) (he : ∀ cl C fp s H, PE (blk X N sc cl C fp s H) el te)
  (hsw : swapsWith (.ListComp el [⟨tg, src, ifs, 0⟩] sc pos) (some (.Name x pos')) spos.line X.env = pure true := by rfl)
  (hfn : X.fn x = true \/ X.env.scope.names.lookup x = some .local := by first | exact .inl rfl | exact .inr rfl | assumption)
  (hs : ∀ x, foldedSetIterable src X.env x = pure x := by intro _; rfl) : PS X (.Assign [.Name x pos'] (.ListComp el [⟨tg, src, ifs, 0⟩] sc pos) spos) (Bq (GQ ix wi g tf te) (jJ i)) := by
 intro pins s σ H D0 I h
 obtain ⟨cl, hcl, c1, c2⟩ := I.clos hb
 obtain ⟨hk, hn⟩ := wD hb
 rw [exec_Assign_Name_used _ _ _ _ hsw]
 refine wpAny_bind (wpAny_standAt (wpAny_bind ?_))
 show wpAny _ X.A (do let _ <- comprehension (.ListComp el [⟨tg, src, ifs, 0⟩] sc pos) sc X.env _ (newList []) false (eval src X.env) (some (assign (.Name x pos') X.env))) _ _ s
 refine wpAny_bind (thn (wpAny_comprehension_free (use := some (assign (.Name x pos') X.env)) (Q := fun _ s' => SP X pins D0 .next s') rfl hs hcl hk hn (thn (hi pins s σ H _ I h) fun xv s1 h1 => thn h1 fun itv s2 h2 => ?_)) fun _ s' hq => wpAny_pure (wpAny_pure hq))
 obtain ⟨it, fp, tn, J, H2, rfl, I2, T, st, f2, hW⟩ := h2
 refine wY (RR := fun acc C => compPost (model X.prog X.w) X.A X.xe (some (assign (.Name x pos') X.env)) (fun _ s' => SP X pins D0 .next s') acc C) I2 hc hb c1 c2 T st f2 (fun C fp => hg cl C fp s2 H2) (fun C fp => hf cl C fp s2 H2) (fun C fp => he cl C fp s2 H2) hW ?_
 intro D C s' ys H' hD ⟨m, hm⟩ I' fC fin
 obtain ⟨g1, g2, _, g4, g5, g6⟩ := fC
 show wpAny _ X.A (assign (.Name x pos') X.env (.ref D)) _ _ _
 refine wpAny_assign_Name (wj (v := .ref D) I' hN hxi hx rfl (fun s'' I'' ⟨a, sb, ha⟩ => ?_) hfn)
 have hCa : C ≠ a := by
  rcases ha with z | z
  ·rw [z]; exact g2
  ·exact fun e => g5 x a z e.symm
 refine ⟨m, hm.sameBut sb hCa, fun h' hs' => ⟨_, _, I''.turned (t' := s''.toks) (fun b o hb e => (hs'.2 b hb).trans e) g1 g2 g4 g5 g6, fin D hD⟩⟩
end
theorem uI {lo : Int} {n : Nat} {tf : TT} {te : TE} {τ0 : St} {H : Hp} {Fin : List V -> Hp -> Prop} (f : Nat -> V) (hn : n <= sizeLine)
  (hte : ∀ i H' Q, i < n -> az H H' -> (∀ H'', az H' H'' -> Q (f i) H'') -> tf (τ0.set 0 (some (.int (lo + i)))) H' fun b H3 => b = true /\ te (τ0.set 0 (some (.int (lo + i)))) H3 Q)
  (mono : ∀ τ H Q Q', (∀ b H1, Q b H1 -> Q' b H1) -> tf τ H Q -> tf τ H Q')
  (hfin : ∀ H', az H H' -> Fin ((List.range n).map f) H') : qN (jJ 0) tf te (Itr lo n) τ0 H Fin := by
 refine ⟨fun i m τ ys H' => m = n - i /\ i <= n /\ ys = (List.range i).map f /\ az H H' /\ ∃ v, τ = τ0.set 0 v \/ τ = τ0, ⟨n, rfl, zero_le _, rfl, az.refl _, none, .inr rfl⟩, ?_⟩
 rintro i m τ ys H' ⟨rfl, hi, rfl, sm, v, hτ⟩
 by_cases hlt : i < n
 ·refine .inr ⟨hlt, fun x H'' y => ?_⟩
  obtain ⟨e, y⟩ := y
  subst e y
  have e2 : τ.set 0 (some (V.int (lo + i))) = τ0.set 0 (some (V.int (lo + i))) := by
   rcases hτ with rfl | rfl
   ·rw [set_set]
   ·rfl
  show tf (τ.set 0 (some (V.int (lo + i)))) H'' _
  rw [e2]
  refine mono _ _ _ _ ?_ (hte i H'' (fun y H4 => ((List.range i).map f).length < sizeLine /\ ∃ m', m' < n - i /\ (m' = n - (i + 1) /\ i + 1 <= n /\ (List.range i).map f ++ [y] = (List.range (i + 1)).map f /\ az H H4 /\ ∃ v, τ0.set 0 (some (V.int (lo + i))) = τ0.set 0 v \/ τ0.set 0 (some (V.int (lo + i))) = τ0)) hlt sm fun H4 s4 => ?_)
  ·rintro b H1 ⟨rfl, q⟩
   rw [if_pos rfl]
   exact q
  ·refine ⟨by rw [length_map, length_range]; omega, n - (i + 1), Z1, rfl, hlt, by rw [range_succ, map_append]; rfl, sm.trans s4, _, .inl rfl⟩
 ·have e : i = n := by omega
  subst e
  exact .inl ⟨le_refl _, hfin H' sm⟩
theorem d7 {c A B : Prop} [Decidable c] (h1 : c -> A) (h2 : ¬ c -> B) : if decide c = true then A else B := by
 by_cases h : c
 ·rw [if_pos (decide_eq_true h)]; exact h1 h
 ·rw [if_neg (by simpa using h)]; exact h2 h
theorem Lh {i j : Int} {A B : Prop} (h1 : i = j -> A) (h2 : ¬ i = j -> B) : if decide (V.int i = V.int j) = true then A else B :=
 d7 (fun h => h1 (V.int.inj h)) fun h => h2 fun e => h (congrArg V.int e)
theorem Az {x y : V} {A B : Prop} (e : x = y) (h : B) : if (!decide (x = y)) = true then A else B := by
 rw [if_neg (by simp [e])]; exact h
theorem az.new {H : Hp} {p : Addr} {o : HO} (h : H p = none) : az H (upd H p o) := fun b u e => by
 rw [aK (aD e h)]; exact e
theorem az.put {H H' : Hp} {p : Addr} {o : HO} (s : az H H') (h : H' p = none) : az H (upd H' p o) := s.trans (az.new h)
theorem az.over {H H' : Hp} {p : Addr} {o : HO} (s : az H H') (h : H p = none) : az H (upd H' p o) := fun b u e => by
 rw [aK (aD e h)]; exact s b u e
structure FnAt (K : Frag) (mg : MG) (x : Str) (st : Stmt) (ps : List Str) (f : Addr) (fd : FuncData) : Prop where
 F : Fun K x x st f fd
 b : Binds K fd ps []
 m : mg x = some (.ref f)
section
variable {X : Cx} {k : Nat} {f : Addr} {fd : FuncData} {ps : List Str} {sp : Sp} {x : Str} {st : Stmt} {p pos : Pos} {e : Expr} {es : List Expr} {t : TA}
theorem aX (A : FnAt X.K X.mg x st ps f fd) (G : aL X.prog X.w X.K X.mg X.base CX0 k f fd ps sp) (hr : aY k X.A) (ha : PA X (e :: es) t) (hg : Gl X x := by rfl)
  (hdb : (x == ("__debug__" : Str)) = false := by decide) (he : starEach (e :: es) X.env = (false, eval e X.env) :: starEach es X.env := by rfl) (hpl : (backTo pos (starEach es X.env)).any (·.1) = false := by rfl) :
  PE X (.Call (.Name x p) (e :: es) [] pos) (Dh sp [] E0 t) := Ks G hr hg A.m A.F.kp A.b .nil jl ha hdb he hpl
end
def Pur (v : V) (H : Hp) (Q : VK) : Prop := ∀ H', az H H' -> Q v H'
end L2
namespace Mine
open PySem PySem.Spec PyProof.Rows L2
def Jc : Sp := fun vs H Q _ => ∃ (c j : Int), vs = [.int c, .int j] /\ 0 <= j /\ j <= 1000 /\ Pur (.int (sub c j)) H Q
def mL : Sp := fun vs H Q _ => ∃ (c k m : Int), vs = [.int c, .int k, .int m] /\ 0 <= k /\ k < 40 /\ 0 < m /\ Pur (.int (pick c k m)) H Q
end Mine
namespace L2
open PySem PySem.Spec PyProof.Rows
section
variable {X : Cx}
theorem Nm {bs : List Bool} : ∀ {us : List Value} {i : Nat} {v : Value}, Vals (bs.map V.bl) us -> us[i]? = some v -> v = .bool (bs.getD i false) := by
 induction bs with
 | nil => intro us i v r h; rw [map_nil] at r; cases r; simp at h
 | cons b bs ih =>
  intro us i v r h
  rw [map_cons] at r
  cases r with
  | cons r1 r2 =>
   cases i with
   | zero =>
    have r1' : _ = Value.bool b := r1
    simp at h
    rw [<- h, r1']
    rfl
   | succ i => exact ih r2 (by simpa using h)
theorem range_any (bs : List Bool) : (List.range bs.length).any (fun i => bs.getD i false) = bs.any id := by
 have e : (List.range bs.length).map (fun i => bs.getD i false) = bs := by
  apply ext_getElem
  ·simp
  ·intro i h1 h2
   simp [getD_eq_getElem?_getD, h2]
 conv => rhs; rw [<- e]
 rw [any_map]; rfl
def Q0 (K : Frag) (f : List Bool -> Bool) : List V -> Hp -> VK -> Prop := fun xs H Q => ∃ p bs, xs = [.ref p] /\ SqL K H p (bs.map V.bl) /\ Q (.bl (f bs)) H
end
section
variable {X : Cx} {K : Frag}
theorem uB (h : X.K = K) : MtR X "str.join" (rJoin K) := by subst h; exact jX
theorem uh (h : X.K = K) : SlR X (Qt K) := by subst h; exact jU
theorem Bl (h : X.K = K) : IxR X (Qa K) := by subst h; exact bI
theorem c7 (h : X.K = K) : IxR X (Ox K) := by subst h; exact bU
theorem EY (h : X.K = K) : jg X (.builtin "len") (fun xs H Q => ∃ p ys, xs = [.ref p] /\ (SqL K H p ys \/ SqT K H p ys) /\ Q (.int ys.length) H) := by subst h; exact bz
theorem vy {tg l : Expr} {tl : TE} (h : X.K = K) (hl : PE X l tl) : PI X tg l (KR K tl) := by subst h; exact aZ hl
variable {o e : Expr} {es : List Expr} {to : TE} {t : TA} {name : Str} {apos cpos : Pos} {T id : String} {r : V -> List V -> Hp -> VK -> Prop}
theorem mj (h : X.K = K) (pa : PlainAttrs T) (slot : Slot T name id) (hty : typeOf (.builtin id) = pure (.type "method_descriptor")) (hm : MtR X id r) (ho : PE X o to) (ha : PA X (e :: es) t)
  (hbase : attributeBase o name X.env (eval o X.env) = eval o X.env := by rfl)
  (hfew : ((backTo cpos (starEach (e :: es) X.env)).all (fun x => !x.1) && (backToKw cpos (keywordEach [] X.env)).all (fun x => x.1.isSome)
   && decide ((e :: es).length + ([] : List Keyword).length + (if ([] : List Keyword).isEmpty then 0 else 1) < 30)) = true := by rfl)
  (hline : (apos.endLine == cpos.line) = true := by rfl) (hs : starEach (e :: es) X.env = (false, eval e X.env) :: starEach es X.env := by rfl) (hplain : (backTo cpos (starEach es X.env)).any (·.1) = false := by rfl) :
  PE X (.Call (.Attribute o name apos) (e :: es) [] cpos) (tBM K T r to t) := by
 subst h
 exact cI pa slot hty hm ho ha hbase hfew hline hs hplain
end
structure QS (X : Cx) (st : Stmt) (t : TS) : Prop where
 h : PS X st t
structure QSs (X : Cx) (st : List Stmt) (t : TS) : Prop where
 h : PSs X st t
section
variable {X : Cx} {st : Stmt} {rest : List Stmt} {t u : TS} {e : Expr} {te : TE} {pos : Pos}
theorem aP : QSs X [] KJ := ⟨tW⟩
theorem aq (h1 : QS X st t) (h2 : QSs X rest u) : QSs X (st :: rest) (Qg t u) := ⟨gq h1.h h2.h⟩
theorem aA (h1 : QS X st t) : QSs X [st] t := ⟨lZ h1.h⟩
theorem bT (he : PE X e te) (hs : swapsWith e none pos.line X.env = pure false := by rfl) : QS X (.Expr e pos) (Il te) := ⟨Kc he hs⟩
theorem aO (he : PE X e te) : QS X (.Return (some e) pos) (JZ te) := ⟨pN he⟩
theorem bA {c : Expr} {a b : List Stmt} {tc : TT} (hc : PT X c tc) (ha : QSs X a t) (hb : QSs X b u) : QS X (.If c a b pos) (Qh tc t u) := ⟨Dq hc ha.h hb.h⟩
theorem gm {tg iter : Expr} {body : List Stmt} {wi : TI} {g : TG} {tb : TS} (hp : PassesOwn (model X.prog X.w) X.A X.env X.xe) (hc : X.calm = true) (hi : PI X tg iter wi) (hg : PG X tg g) (hb : QSs X body tb) (hs : ∀ x, foldedSetIterable iter X.env x = pure x := by intro _; rfl) : QS X (.For tg iter body [] pos) (OD wi g tb) := ⟨Nr hp hc hi hg hb.h hs⟩
theorem yW {tg : Expr} {g : TG} (he : PE X e te) (hg : PG X tg g) (hs : swapsWithSole [tg] e pos.line X.env = pure false := by rfl) (hw : swappedStores [tg] e X.env = pure none := by rfl)
  (h1 : (assignEach [tg] X.env).map (·.2) = [assign tg X.env] := by rfl) : QS X (.Assign [tg] e pos) (Bq te g) := ⟨LC he hg hs hw h1⟩
theorem aW {i : Nat} {x : Str} {pos' : Pos} (hN : X.N.Nodup) (hi : X.N[i]? = some x) (hx : Loc X.env.scope x) (he : PE X e te) (hs : swapsWith e (some (.Name x pos')) pos.line X.env = pure false := by rfl) (hf : X.fn x = true \/ X.env.scope.names.lookup x = some .local := by first | exact .inl rfl | exact .inr rfl | assumption) :
  QS X (.Assign [.Name x pos'] e pos) (Bq te (jJ i)) := ⟨pR hN hi hx he hs hf⟩
end
section
variable {X : Cx} {N : List Str} {sc : Scope} {el tg src : Expr} {ifs : List Expr} {wi : TI} {g : TG} {tf : TT} {te : TE} {pos : Pos}
theorem gM (ix : List (Option Nat)) {i : Nat} {x : Str} {pos' spos : Pos} (hN : X.N.Nodup) (hxi : X.N[i]? = some x) (hx : Loc X.env.scope x) (hc : X.calm = true) (hb : oK X.env.scope X.N N ix sc = true) (hi : PI X tg src wi)
  (hg : ∀ cl C fp s H, PG (blk X N sc cl C fp s H) tg g) (hf : ∀ cl C fp s H, PF (blk X N sc cl C fp s H) ifs tf) (he : ∀ cl C fp s H, PE (blk X N sc cl C fp s H) el te)
  (hsw : swapsWith (.ListComp el [⟨tg, src, ifs, 0⟩] sc pos) (some (.Name x pos')) spos.line X.env = pure true := by rfl)
  (hfn : X.fn x = true \/ X.env.scope.names.lookup x = some .local := by first | exact .inl rfl | exact .inr rfl | assumption)
  (hs : ∀ x, foldedSetIterable src X.env x = pure x := by intro _; rfl) : QS X (.Assign [.Name x pos'] (.ListComp el [⟨tg, src, ifs, 0⟩] sc pos) spos) (Bq (GQ ix wi g tf te) (jJ i)) :=
 ⟨Jp ix hN hxi hx hc hb hi hg hf he hsw hfn hs⟩
end
structure QA (X : Cx) (es : List Expr) (t : TA) : Prop where
 h : PA X es t
section
variable {X : Cx} {e : Expr} {es : List Expr} {te : TE} {t : TA} {pos : Pos}
theorem Iv : QA X [] Fd := ⟨ao⟩
theorem cz (ha : PE X e te) (hr : QA X es t) (hs : starEach (e :: es) X.env = (false, eval e X.env) :: starEach es X.env := by rfl) : QA X (e :: es) (wO te t) := ⟨aj ha hr.h hs⟩
theorem Mu (h : QA X es t) : PE X (.List es pos) (Ma t) := bM h.h
end
structure QE (X : Cx) (e : Expr) (t : TE) : Prop where
 h : PE X e t
section
variable {X : Cx} {a b e : Expr} {ta tb te : TE} {es : List Expr} {t : TA} {pos : Pos}
theorem Jx (h : QA X es t) : QE X (.List es pos) (Ma t) := ⟨bM h.h⟩
theorem QB {r : R2} (hr : IxR X r) (ha : QE X a ta) (hb : PE X b tb) (hs : Eb b := by exact fun _ _ => rfl) : QE X (.Subscript a b pos) (tOp r ta tb) := ⟨bc hr ha.h hb hs⟩
theorem JN {i : Nat} {x : Str} {pos' : Pos} (hN : X.N.Nodup) (hi : X.N[i]? = some x) (hx : Loc X.env.scope x) (he : QE X e te) (hs : swapsWith e (some (.Name x pos')) pos.line X.env = pure false := by rfl) (hf : X.fn x = true \/ X.env.scope.names.lookup x = some .local := by first | exact .inl rfl | exact .inr rfl | assumption) :
  QS X (.Assign [.Name x pos'] e pos) (Bq te (jJ i)) := ⟨pR hN hi hx he.h hs hf⟩
end
section
variable {X : Cx} {x : Str} {pos : Pos}
theorem Ko {y : Int} (h : ∃ t, X.mg x = some (.int y t)) (hg : Gl X x := by rfl) (hd : (x == ("__debug__" : Str)) = false := by decide) : PE X (.Name x pos) (tC (.int y)) := by
 obtain ⟨t, e⟩ := h
 exact yr hg e ⟨t, rfl⟩ hd
end
end L2
namespace Mine
open PySem PySem.Spec PyProof.Rows L2 PySem.Builtin PySem.Builtin.Str
theorem lz (a b : Str) : (a ++ b).length = a.length + b.length := by rw [eE, eE, eE, dF, length_append]
theorem f9 : 1000 <= sizeLine := by decide
theorem Gg : (("." : Str)).length = 1 := by decide +kernel
end Mine
namespace L2
open PySem PySem.Spec PyProof.Rows
theorem bR {b : Bool} {A B : Prop} (e : b = true) (h : A) : if b = true then A else B := by rw [if_pos e]; exact h
theorem aV {b : Bool} {A B : Prop} (e : b = false) (h : B) : if b = true then A else B := by rw [if_neg (by rw [e]; decide)]; exact h
theorem jh {b : Bool} {A B : Prop} (e : b = true) (h : B) : if (!b) = true then A else B := by rw [if_neg (by rw [e]; decide)]; exact h
theorem nA {b : Bool} {A B : Prop} (e : b = false) (h : A) : if (!b) = true then A else B := by rw [if_pos (by rw [e]; decide)]; exact h
end L2
namespace Mine
open PySem PySem.Spec PyProof.Rows L2 PySem.Builtin PySem.Builtin.Str
def O9 : Str := "0123456789"
def zero : Str := "0"
def inF (c : Nat) : Bool := !(Builtin.Str.occurrences O9 (⟨#[c]⟩ : Str) 0 O9.length 1).isEmpty
theorem Kl {c : Nat} (h0 : 48 <= c) (h1 : c <= 57) : inF c = true := by
 have h : ∀ n : Fin 10, inF (48 + n.val) = true := by decide +kernel
 have := h ⟨c - 48, Z1⟩
 rwa [show 48 + (⟨c - 48, Z1⟩ : Fin 10).val = c from by show 48 + (c - 48) = c; omega] at this
def Pn (z : Str) : Bool := decide (1 <= z.length) && decide (z.length <= 20) && !(decide (z.cps.toList.head? = some 48) && !decide (z = zero)) && z.cps.toList.all inF
def sH (m : Nat) : Str := Str.ofString (toString ((m : Nat) : Int))
theorem mH (m : Nat) : (sH m).cps.toList = (Nat.toDigits 10 m).map Char.toNat := PySem.W.KIN.signs_num m
theorem digit_range {m : Nat} {c : Nat} (h : c ∈ (sH m).cps.toList) : 48 <= c /\ c <= 57 := by
 rw [mH] at h
 obtain ⟨d, hd, rfl⟩ := mem_map.mp h
 have := Nat.isDigit_of_mem_toDigits Z0 Z0 hd
 unfold Char.isDigit at this
 simp only [and_eq_true, decide_eq_true_eq] at this
 exact ⟨this.1, this.2⟩
theorem zO : ∀ m : Nat, (Nat.toDigits 10 m).head? = some '0' -> m = 0 := by
 intro m
 induction m using Nat.strongRecOn with
 | _ m ih =>
  intro h
  by_cases hm : m < 10
  ·rw [Nat.toDigits_of_lt_base hm] at h
   have h' : Nat.digitChar m = '0' := by simpa using h
   have : ∀ n : Fin 10, Nat.digitChar n.val = '0' -> n.val = 0 := by decide
   exact this ⟨m, hm⟩ h'
  ·have hd : m % 10 < 10 := Nat.mod_lt m Z0
   have t : Nat.toDigits 10 (m / 10) ++ Nat.toDigits 10 (m % 10) = Nat.toDigits 10 (10 * (m / 10) + m % 10) := Nat.toDigits_append_toDigits Z0 Z1 hd
   rw [Nat.div_add_mod] at t
   rw [<- t] at h
   have hne : Nat.toDigits 10 (m / 10) ≠ [] := Nat.toDigits_ne_nil
   cases e : Nat.toDigits 10 (m / 10) with
   | nil => exact absurd e hne
   | cons a r =>
    rw [e] at h
    have := ih (m / 10) Z1 (by rw [e]; simpa using h)
    omega
theorem uO {a b : Char} (h : a.toNat = b.toNat) : a = b := by
 apply Char.ext
 exact UInt32.toNat_inj.mp h
theorem Et : sH 0 = zero := by decide +kernel
theorem J1 {m : Nat} (h : m < 10 ^ 20) : Pn (sH m) = true /\ (sH m).length <= 20 /\ 1 <= (sH m).length /\ intText? (sH m) = some ((m : Nat) : Int) := by
 have hl : (sH m).length = (Nat.toDigits 10 m).length := by rw [eE, mH, length_map]
 have h1 : 1 <= (sH m).length := by rw [hl]; exact Nat.length_toDigits_pos
 have h2 : (sH m).length <= 20 := by rw [hl]; exact (Nat.length_toDigits_le_iff Z0 Z0).mpr h
 refine ⟨?_, h2, h1, ?_⟩
 ·unfold Pn
  rw [decide_eq_true h1, decide_eq_true h2, all_eq_true.mpr fun c hc => Kl (digit_range hc).1 (digit_range hc).2]
  by_cases hd : (sH m).cps.toList.head? = some 48
  ·have hm : m = 0 := by
    rw [mH, List.head?_map] at hd
    cases e : (Nat.toDigits 10 m).head? with
    | none => rw [e] at hd; cases hd
    | some d =>
     rw [e] at hd
     have : d = '0' := uO (by simpa using hd)
     rw [this] at e
     exact zO m e
   subst hm
   rw [Et, decide_eq_true (rfl : zero = zero)]
   decide +kernel
  ·rw [decide_eq_false hd]; rfl
 ·rw [intText_digits (fun c hc => digit_range hc) (fun z => by rw [eE, z] at h1; simp at h1) Z1, mH, PySem.W.KIN.val_back]
theorem lq {ys : List Str} (h0 : ys ≠ []) (h : ∀ y ∈ ys, cQ y) : ∃ c ∈ (dotted ys).cps.toList, 97 <= c /\ c <= 122 := by
 cases ys with
 | nil => exact absurd rfl h0
 | cons y r =>
  have hy := h y mem_cons_self
  cases e : y.cps.toList with
  | nil => have := hy.lo; rw [eE, e] at this; simp at this
  | cons c q =>
   have hc : c ∈ y.cps.toList := by rw [e]; simp
   refine ⟨c, ?_, hy.ok c hc⟩
   rw [cH, ni]
   obtain ⟨R, e1, _⟩ := pO 46 y.cps.toList (r.map (·.cps.toList))
   rw [map_cons, e1]
   exact mem_append_left _ hc
def brk : Str := "()"
end Mine
namespace L2
open PySem PySem.Spec PyProof.Rows
inductive DEq (K : Frag) (H : Hp) : Nat -> V -> V -> Prop where
 | non {n : Nat} : DEq K H n .non .non
 | bl {n : Nat} (b : Bool) : DEq K H n (.bl b) (.bl b)
 | int {n : Nat} (i : Int) : DEq K H n (.int i) (.int i)
 | str {n : Nat} (x : Str) : DEq K H n (.str x) (.str x)
 | same {n : Nat} (a : Addr) : DEq K H n (.ref a) (.ref a)
 | tup {n : Nat} {a b : Addr} {xs ys : List V} (ha : SqT K H a xs) (hb : SqT K H b ys) (hl : xs.length = ys.length) (h : ∀ (i : Nat) x y, xs[i]? = some x -> ys[i]? = some y -> DEq K H n x y) : DEq K H (n + 1) (.ref a) (.ref b)
 | lst {n : Nat} {a b : Addr} {xs ys : List V} (ha : SqL K H a xs) (hb : SqL K H b ys) (hl : xs.length = ys.length) (h : ∀ (i : Nat) x y, xs[i]? = some x -> ys[i]? = some y -> DEq K H n x y) : DEq K H (n + 1) (.ref a) (.ref b)
section
variable {X : Cx} {pins : OP} {σ : St} {H : Hp} {s : Shared}
theorem Vals.at {xs : List V} {us : List Value} (r : Vals xs us) {j : Nat} (h : j < us.length) : ∃ x, xs[j]? = some x /\ RelV x us[j] := by
 have hl := r.length
 have hx : xs[j]? = some xs[j] := getElem?_eq_getElem Z1
 obtain ⟨u, hu, ru⟩ := r.get hx
 rw [getElem?_eq_getElem h] at hu
 cases hu
 exact ⟨_, hx, ru⟩
theorem oO (n : Nat) : (List.range n).all (fun _ => true) = true := by simp
theorem DEq.at (I : Inv X pins σ H s) {n : Nat} {x y : V} (d : DEq X.K H n x y) : ∀ {A : Around} {u v : Value}, A.units + n < cLine -> RelV x u -> RelV y v -> SeqAt.EqAt A s u v true := by
 induction d with
 | non => intro A u v hu ru rv; cases ru; cases rv; exact SeqAt.EqAt.same _
 | bl b => intro A u v hu ru rv; cases ru; cases rv; exact SeqAt.EqAt.same _
 | int i =>
  intro A u v hu ru rv
  obtain ⟨t, rfl⟩ := ru
  obtain ⟨t', rfl⟩ := rv
  have := SeqAt.EqAt.int_int (A := A) (s := s) i t i t'
  rwa [beq_self_eq_true] at this
 | str x =>
  intro A u v hu ru rv
  obtain ⟨t, rfl⟩ := ru
  obtain ⟨t', rfl⟩ := rv
  have := SeqAt.EqAt.str_str (A := A) (s := s) x t x t'
  rwa [beq_self_eq_true] at this
 | same a => intro A u v hu ru rv; cases ru; cases rv; exact SeqAt.EqAt.same _
 | @tup n a b xs ys ha hb hl h ih =>
  intro A u v hu ru rv
  cases ru; cases rv
  by_cases hab : a = b
  ·subst hab; exact SeqAt.EqAt.same _
  ·obtain ⟨us, r1, p1, _⟩ := I.tuple ha
   obtain ⟨ws, r2, p2, _⟩ := I.tuple hb
   have l1 := r1.length
   have l2 := r2.length
   have := SeqAt.RcAt.tuples (A := A) (s := s) (e := fun _ => true) (show s.heap.IsTuple a us.toArray from p1) (show s.heap.IsTuple b ws.toArray from p2) Z1 fun j h1 h2 => by
    have h1' : j < us.length := by simpa using h1
    have h2' : j < ws.length := by simpa using h2
    obtain ⟨x, ex, rx⟩ := r1.at h1'
    obtain ⟨y, ey, ry⟩ := r2.at h2'
    exact ih j x y ex ey (A := A.in1) (show A.units + 1 + n < cLine by omega) (by simpa using rx) (by simpa using ry)
   rw [oO, show (us.toArray.size == ws.toArray.size) = true from by simp; omega] at this
   exact SeqAt.EqAt.of_refs hab this
 | @lst n a b xs ys ha hb hl h ih =>
  intro A u v hu ru rv
  cases ru; cases rv
  by_cases hab : a = b
  ·subst hab; exact SeqAt.EqAt.same _
  ·obtain ⟨us, r1, p1, _⟩ := I.list ha
   obtain ⟨ws, r2, p2, _⟩ := I.list hb
   have l1 := r1.length
   have l2 := r2.length
   have := SeqAt.RcAt.lists (A := A) (s := s) (e := fun _ => true) p1.isList p2.isList Z6 Z1 fun j h1 h2 => by
    have h1' : j < us.length := by simpa using h1
    have h2' : j < ws.length := by simpa using h2
    obtain ⟨x, ex, rx⟩ := r1.at h1'
    obtain ⟨y, ey, ry⟩ := r2.at h2'
    exact ih j x y ex ey (A := A.in1) (show A.units + 1 + n < cLine by omega) (by simpa using rx) (by simpa using ry)
   rw [oO] at this
   exact SeqAt.EqAt.of_refs hab this
def DSq (K : Frag) (H : Hp) (a b : Addr) : Prop := ∃ (n : Nat) (xs ys : List V), n <= 60 /\ xs.length = ys.length /\ ((SqT K H a xs /\ SqT K H b ys) \/ (SqL K H a xs /\ SqL K H b ys)) /\ ∀ (i : Nat) x y, xs[i]? = some x -> ys[i]? = some y -> DEq K H n x y
def QR (K : Frag) (r : Bool) : R2 := fun x y H Q => ∃ a b, x = .ref a /\ y = .ref b /\ DSq K H a b /\ Q (.bl r) H
theorem uL {K : Frag} (hK : X.K = K) (hu : X.A.units + 64 < cLine) : OpR X (compareOp .NotEq) (QR K false) := by
 subst hK
 intro pins s σ H x y v u Q I rx ry h
 obtain ⟨a, b, rfl, rfl, ⟨n, xs, ys, hn, hl, hs, hd⟩, q⟩ := h
 cases rx; cases ry
 have fin : EP X pins σ Q (.bool false) s := ⟨.bl false, H, I, rfl, q⟩
 rcases hs with ⟨ha, hb⟩ | ⟨ha, hb⟩
 ·obtain ⟨us, r1, p1, _⟩ := I.tuple ha
  obtain ⟨ws, r2, p2, _⟩ := I.tuple hb
  have l1 := r1.length
  have l2 := r2.length
  have := SeqAt.RcNeAt.tuples (A := X.A) (s := s) (e := fun _ => true) (show s.heap.IsTuple a us.toArray from p1) (show s.heap.IsTuple b ws.toArray from p2) Z1 fun j h1 h2 => by
   have h1' : j < us.length := by simpa using h1
   have h2' : j < ws.length := by simpa using h2
   obtain ⟨x, ex, rx⟩ := r1.at h1'
   obtain ⟨y, ey, ry⟩ := r2.at h2'
   exact DEq.at I (hd j x y ex ey) (A := X.A.in1) (show X.A.units + 1 + n < cLine by omega) (by simpa using rx) (by simpa using ry)
  rw [oO, show (us.toArray.size == ws.toArray.size) = true from by simp; omega] at this
  exact this X.prog X.w X.xe _ fin
 ·obtain ⟨us, r1, p1, _⟩ := I.list ha
  obtain ⟨ws, r2, p2, _⟩ := I.list hb
  have l1 := r1.length
  have l2 := r2.length
  have := SeqAt.RcNeAt.lists (A := X.A) (s := s) (e := fun _ => true) p1.isList p2.isList Z6 Z1 fun j h1 h2 => by
   have h1' : j < us.length := by simpa using h1
   have h2' : j < ws.length := by simpa using h2
   obtain ⟨x, ex, rx⟩ := r1.at h1'
   obtain ⟨y, ey, ry⟩ := r2.at h2'
   exact DEq.at I (hd j x y ex ey) (A := X.A.in1) (show X.A.units + 1 + n < cLine by omega) (by simpa using rx) (by simpa using ry)
  rw [oO] at this
  exact this X.prog X.w X.xe _ fin
end
section
variable {X : Cx} {K : Frag}
theorem kh {es : List Expr} {k : Nat} {t : TGs} {n : Nat} {pos : Pos} (hK : X.K = K) (hc : X.calm = true) (h : PGs X es t)
  (hn : (assignEach es X.env).length = n := by rfl) (hst : (assignEach es X.env).findIdx? (·.1) = none := by rfl) : PG X (.Tuple es k pos) (Qj K n t) := by subst hK; exact Nx hc h hn hst
end
section
variable {X : Cx} {K : Frag} {tg : Expr}
end
section
variable {X : Cx} {K : Frag}
theorem u6 (hc : X.calm = true) : jg X (.builtin "any") (Q0 X.K fun bs => bs.any id) := by
 intro pins s σ H xs us Q I r h
 obtain ⟨p, bs, rfl, hq, q⟩ := h
 obtain ⟨u, rfl, rx⟩ := vals1 r
 cases (show u = Value.ref p from rx)
 obtain ⟨its, rv, pl, hz⟩ := I.list hq
 have hlen := rv.length
 rw [length_map] at hlen
 have hne : p ≠ s.heap.objs.size := by
  obtain ⟨o, e, _⟩ := pl.isList
  exact ne_of_lt (Heap.lt_size e)
 refine call_any_walk (wpAny_pyIter_list pl.isList ?_)
 refine ⟨s.heap.objs.size, _, _, _, _, _, fun i => bs.getD i false, rfl, Walks.list (show X.A.in1.handled = none from I.ok.hd hc) s.heap.objs.size p hne its.toArray, ⟨⟨_, Heap.get?_push_size _ rfl, rfl, rfl⟩, ?_⟩, fun i v s' Q' E' hP hQ => ?_, fun h' tk kk => ?_⟩
 ·exact pl.isList.at fun o e => Heap.get?_push_of_some _ e
 ·have e := Nm rv (by simpa using hP)
  subst e
  exact wpAny_truthy_bool hQ
 ·have e : (List.range its.toArray.size).any (fun i => bs.getD i false) = bs.any id := by rw [size_toArray, <- hlen]; exact range_any bs
  rw [e]
  refine ⟨.bl _, H, I.kept fun b o e => ?_, rfl, q⟩
  exact kk b o (fun z => absurd (Heap.lt_size e) (by rw [mem_singleton.mp z]; exact lt_irrefl _)) (Heap.get?_push_of_some _ e)
end
theorem dI {K : Frag} {a : Addr} {xs : List V} {tf : TT} {te : TE} {τ0 : St} {H : Hp} {Fin : List V -> Hp -> Prop} (p : V -> Bool) (hn : xs.length <= sizeLine) (hl : SqL K H a xs)
  (htf : ∀ x H' (Q : Bool -> Hp -> Prop), x ∈ xs -> az H H' -> (∀ H'', az H' H'' -> Q (p x) H'') -> tf (τ0.set 0 (some x)) H' Q)
  (hte : ∀ x H' (Q : VK), x ∈ xs -> az H H' -> (∀ H'', az H' H'' -> Q x H'') -> te (τ0.set 0 (some x)) H' Q)
  (hfin : ∀ H', az H H' -> Fin (xs.filter p) H') : qN (jJ 0) tf te (Itl K a) τ0 H Fin := by
 refine ⟨fun i m τ ys H' => m = xs.length - i /\ i <= xs.length /\ ys = (xs.take i).filter p /\ az H H' /\ ∃ v, τ = τ0.set 0 v \/ τ = τ0, ⟨xs.length, rfl, zero_le _, rfl, az.refl _, none, .inr rfl⟩, ?_⟩
 rintro i m τ ys H' ⟨rfl, hi, rfl, sm, v, hτ⟩
 by_cases hlt : i < xs.length
 ·refine .inr ⟨⟨xs, xs[i], sm.seq hl, by simp [hlt]⟩, fun x H'' y => ?_⟩
  obtain ⟨e, y⟩ := y
  subst e
  have hx := y xs (sm.seq hl)
  have e2 : τ.set 0 (some x) = τ0.set 0 (some x) := by
   rcases hτ with rfl | rfl
   ·rw [set_set]
   ·rfl
  unfold jJ
  rw [e2]
  have e3 : (xs.take (i + 1)).filter p = (xs.take i).filter p ++ (if p x = true then [x] else []) := by
   rw [List.take_add_one, hx, filter_append]
   congr 1
   show [x].filter p = _
   rw [List.filter_cons]
   rfl
  refine htf x H'' _ (mem_of_getElem? hx) sm fun H4 s4 => ?_
  cases hp : p x with
  | true =>
   rw [if_pos rfl]
   refine hte x H4 _ (mem_of_getElem? hx) (sm.trans s4) fun H5 s5 => ?_
   refine ⟨?_, xs.length - (i + 1), Z1, rfl, hlt, ?_, sm.trans (s4.trans s5), _, .inl rfl⟩
   ·have := length_filter_le p (xs.take i)
    rw [length_take] at this
    omega
   ·rw [e3, hp]; rfl
  | false =>
   rw [if_neg Z0]
   refine ⟨xs.length - (i + 1), Z1, rfl, hlt, ?_, sm.trans s4, _, .inl rfl⟩
   rw [e3, hp]; simp
 ·have e : i = xs.length := by omega
  subst e
  exact .inl ⟨⟨xs, sm.seq hl, le_refl _⟩, by have := hfin H' sm; rw [take_length]; exact this⟩
end L2
namespace Mine
open PySem PySem.Spec PyProof.Rows L2 PySem.Builtin PySem.Builtin.Str
inductive Thg where
 | num (m : Nat)
 | nms (c : Bool) (ys : List Str)
structure Trm where
 sg : Int
 th : Thg
def kindOf : Thg -> Str
 | .num _ => "number"
 | .nms c _ => if c = true then "call" else "path"
def wordOf : Thg -> Str
 | .num m => sH m
 | .nms c ys => if c = true then dotted ys ++ brk else dotted ys
def sgw (s : Int) : Str := if s = 1 then "+" else "-"
def wordsOf : List Trm -> List Str
 | [] => []
 | t :: r => wordOf t.th :: (r.map fun t => [sgw t.sg, wordOf t.th]).flatten
def textOf (ts : List Trm) : Str := Str.join ⟨#[32]⟩ (wordsOf ts)
structure p8 (ys : List Str) : Prop where
 lo : ys ≠ []
 hi : ys.length <= 4
 nm : ∀ y ∈ ys, cQ y
def BK : Thg -> Prop
 | .num m => m < 10 ^ 20
 | .nms _ ys => p8 ys
structure Ip (t : Trm) : Prop where
 sg : t.sg = 1 \/ t.sg = -1
 th : BK t.th
structure yD (ts : List Trm) : Prop where
 lo : ts ≠ []
 hi : ts.length <= 6
 ok : ∀ t ∈ ts, Ip t
 hd : ∀ t, ts.head? = some t -> t.sg = 1
theorem DX : brk.length = 2 := by decide +kernel
theorem p8.len {ys : List Str} (h : p8 ys) : (dotted ys).length <= 36 := by
 have h1 := CK ys
 have h2 : (ys.map (·.length)).sum <= ys.length * 8 := nq fun y hy => (h.nm y hy).hi
 have := h.hi
 omega
theorem zP {th : Thg} (h : BK th) : (wordOf th).length <= 38 := by
 cases th with
 | num m => exact le_trans (J1 h).2.1 Z0
 | nms c ys =>
  have := p8.len h
  cases c with
  | true => show (dotted ys ++ brk).length <= 38; rw [lz, DX]; omega
  | false => show (dotted ys).length <= 38; omega
theorem BZ : (("+" : Str)).cps.toList = [43] := by decide +kernel
theorem Bk : (("-" : Str)).cps.toList = [45] := by decide +kernel
theorem FQ (s : Int) : (sgw s).cps.toList = [43] \/ (sgw s).cps.toList = [45] := by
 unfold sgw; split
 ·exact .inl BZ
 ·exact .inr Bk
theorem Dk (s : Int) : (sgw s).length = 1 := by
 rw [eE]; rcases FQ s with e | e <;> rw [e] <;> rfl
theorem rT {ts : List Trm} {x : Str} (h : x ∈ wordsOf ts) : (∃ t ∈ ts, x = wordOf t.th) \/ ∃ t ∈ ts, x = sgw t.sg := by
 cases ts with
 | nil => simp [wordsOf] at h
 | cons t r =>
  rcases mem_cons.mp h with h | h
  ·exact .inl ⟨t, mem_cons_self, h⟩
  ·obtain ⟨l, hl, hx⟩ := List.mem_flatten.mp h
   obtain ⟨u, hu, rfl⟩ := mem_map.mp hl
   simp only [mem_cons, not_mem_nil, or_false] at hx
   rcases hx with hx | hx
   ·exact .inr ⟨u, mem_cons_of_mem _ hu, hx⟩
   ·exact .inl ⟨u, mem_cons_of_mem _ hu, hx⟩
theorem blank_eq : ((" " : Str)) = ⟨#[32]⟩ := by decide +kernel
theorem Gb (r : List Trm) : ((r.map fun t => [sgw t.sg, wordOf t.th]).flatten).length = 2 * r.length := by
 induction r with
 | nil => rfl
 | cons t r ih => rw [map_cons, List.flatten_cons, length_append, ih]; simp; omega
theorem oR {ts : List Trm} (h : ts ≠ []) : (wordsOf ts).length = 2 * ts.length - 1 := by
 cases ts with
 | nil => exact absurd rfl h
 | cons t r => show (_ :: _).length = _; rw [length_cons, Gb, length_cons]; omega
theorem yx {ts : List Trm} (t : Trm) (h : ts ≠ []) : wordsOf (ts ++ [t]) = wordsOf ts ++ [sgw t.sg, wordOf t.th] := by
 cases ts with
 | nil => exact absurd rfl h
 | cons u r =>
  show wordOf u.th :: ((r ++ [t]).map fun t => [sgw t.sg, wordOf t.th]).flatten = wordOf u.th :: (r.map fun t => [sgw t.sg, wordOf t.th]).flatten ++ [sgw t.sg, wordOf t.th]
  rw [map_append, List.flatten_append]
  simp
theorem Bt {ts : List Trm} (h : ∀ t ∈ ts, Ip t) : (textOf ts).length <= 80 * ts.length := by
 unfold textOf
 have h1 := StrLaws.join_length_le ⟨#[32]⟩ (wordsOf ts)
 have e : (⟨#[32]⟩ : Str).length = 1 := rfl
 rw [e] at h1
 have h2 : ((wordsOf ts).map (·.length)).sum <= (wordsOf ts).length * 38 := nq fun y hy => by
  rcases rT hy with ⟨t, ht, rfl⟩ | ⟨t, ht, rfl⟩
  ·exact zP (h t ht).th
  ·rw [Dk]; decide
 cases ts with
 | nil => exact le_of_eq rfl
 | cons t r =>
  have := oR (ts := t :: r) Z2
  omega
end Mine
namespace L2
open PySem PySem.Spec PyProof.Rows
theorem nU {lo : Int} {n : Nat} {te : TE} {τ0 : St} {H : Hp} {Fin : List V -> Hp -> Prop} (R : Nat -> V -> Hp -> Prop) (hm : ∀ i v H' H'', R i v H' -> az H' H'' -> R i v H'') (hn : n <= sizeLine)
  (hte : ∀ (i : Nat) H' (Q : VK), i < n -> az H H' -> (∀ v H'', az H' H'' -> R i v H'' -> Q v H'') -> te (τ0.set 0 (some (.int (lo + i)))) H' Q)
  (hfin : ∀ ys H', az H H' -> ys.length = n -> (∀ (i : Nat) v, ys[i]? = some v -> R i v H') -> Fin ys H') : qN (jJ 0) Cv te (Itr lo n) τ0 H Fin := by
 refine ⟨fun i m τ ys H' => m = n - i /\ i <= n /\ ys.length = i /\ (∀ (j : Nat) v, ys[j]? = some v -> R j v H') /\ az H H' /\ ∃ v, τ = τ0.set 0 v \/ τ = τ0, ⟨n, rfl, zero_le _, rfl, fun j v h => by simp at h, az.refl _, none, .inr rfl⟩, ?_⟩
 rintro i m τ ys H' ⟨rfl, hi, hl, hr, sm, v, hτ⟩
 by_cases hlt : i < n
 ·refine .inr ⟨hlt, fun x H'' y => ?_⟩
  obtain ⟨e, y⟩ := y
  subst e y
  have e2 : τ.set 0 (some (V.int (lo + i))) = τ0.set 0 (some (V.int (lo + i))) := by
   rcases hτ with rfl | rfl
   ·rw [set_set]
   ·rfl
  unfold jJ Cv
  rw [e2]
  dsimp only
  rw [if_pos rfl]
  refine hte i H'' _ hlt sm fun v H4 s4 hv => ?_
  refine ⟨Z1, n - (i + 1), Z1, rfl, hlt, by rw [length_append, hl]; rfl, fun j u hj => ?_, sm.trans s4, _, .inl rfl⟩
  by_cases hji : j < ys.length
  ·rw [getElem?_append_left hji] at hj
   exact hm _ _ _ _ (hr j u hj) s4
  ·rw [getElem?_append_right Z1] at hj
   have hj0 : j - ys.length = 0 := by
    cases hh : j - ys.length with
    | zero => rfl
    | succ k => rw [hh] at hj; simp at hj
   rw [hj0] at hj
   have : j = i := by omega
   subst this
   have : v = u := by simpa using hj
   subst this
   exact hv
 ·have e : i = n := by omega
  subst e
  exact .inl ⟨le_refl _, hfin ys H' sm hl hr⟩
theorem bB {K : Frag} {a : Addr} {xs : List V} {te : TE} {τ0 : St} {H : Hp} {Fin : List V -> Hp -> Prop} (f : Nat -> V) (hn : xs.length <= sizeLine) (hl : SqL K H a xs)
  (hte : ∀ (i : Nat) x H' (Q : VK), xs[i]? = some x -> az H H' -> (∀ H'', az H' H'' -> Q (f i) H'') -> te (τ0.set 0 (some x)) H' Q)
  (hfin : ∀ H', az H H' -> Fin ((List.range xs.length).map f) H') : qN (jJ 0) Cv te (Itl K a) τ0 H Fin := by
 refine ⟨fun i m τ ys H' => m = xs.length - i /\ i <= xs.length /\ ys = (List.range i).map f /\ az H H' /\ ∃ v, τ = τ0.set 0 v \/ τ = τ0, ⟨xs.length, rfl, zero_le _, rfl, az.refl _, none, .inr rfl⟩, ?_⟩
 rintro i m τ ys H' ⟨rfl, hi, rfl, sm, v, hτ⟩
 by_cases hlt : i < xs.length
 ·refine .inr ⟨⟨xs, xs[i], sm.seq hl, by simp [hlt]⟩, fun x H'' y => ?_⟩
  obtain ⟨e, y⟩ := y
  subst e
  have hx := y xs (sm.seq hl)
  have e2 : τ.set 0 (some x) = τ0.set 0 (some x) := by
   rcases hτ with rfl | rfl
   ·rw [set_set]
   ·rfl
  unfold jJ Cv
  rw [e2]
  dsimp only
  rw [if_pos rfl]
  refine hte i x H'' _ hx sm fun H4 s4 => ?_
  exact ⟨by rw [length_map, length_range]; omega, xs.length - (i + 1), Z1, rfl, hlt, by rw [range_succ, map_append]; rfl, sm.trans s4, _, .inl rfl⟩
 ·have e : i = xs.length := by omega
  subst e
  exact .inl ⟨⟨xs, sm.seq hl, le_refl _⟩, hfin H' sm⟩
end L2
namespace Mine
open PySem PySem.Spec PyProof.Rows L2 PySem.Builtin PySem.Builtin.Str
def G7 (H : Hp) (x : V) : Thg -> Prop
 | .num m => x = .int ((m : Nat) : Int)
 | .nms _ ys => ∃ q, x = .ref q /\ H q = some (.tup (ys.map V.str))
def BV (H : Hp) (v : V) (t : Trm) : Prop := ∃ p x, v = .ref p /\ H p = some (.tup [.int t.sg, .str (kindOf t.th), x]) /\ G7 H x t.th
def nR (H : Hp) (l : Addr) (ts : List Trm) : Prop := ∃ xs, H l = some (.lst xs) /\ xs.length = ts.length /\ ∀ (i : Nat) x, xs[i]? = some x -> ∃ t, ts[i]? = some t /\ BV H x t
theorem G7.same {H H' : Hp} {x : V} {th : Thg} (h : G7 H x th) (s : az H H') : G7 H' x th := by
 cases th with
 | num m => exact h
 | nms c ys => obtain ⟨q, e, hq⟩ := h; exact ⟨q, e, s _ _ hq⟩
theorem BV.same {H H' : Hp} {v : V} {t : Trm} (h : BV H v t) (s : az H H') : BV H' v t := by
 obtain ⟨p, x, e, hp, hx⟩ := h
 exact ⟨p, x, e, s _ _ hp, hx.same s⟩
theorem nR.same {H H' : Hp} {l : Addr} {ts : List Trm} (h : nR H l ts) (s : az H H') : nR H' l ts := by
 obtain ⟨xs, hl, hn, hx⟩ := h
 refine ⟨xs, s _ _ hl, hn, fun i x e => ?_⟩
 obtain ⟨t, ht, tm⟩ := hx i x e
 exact ⟨t, ht, tm.same s⟩
theorem fJ {α β : Type} (P : Nat -> α -> β -> Prop) : ∀ (ys : List α) (k : Nat), (∀ (i : Nat) v, ys[i]? = some v -> ∃ t, P (k + i) v t) -> ∃ ts : List β, ts.length = ys.length /\ ∀ (i : Nat) v, ys[i]? = some v -> ∃ t, ts[i]? = some t /\ P (k + i) v t
 | [], k, _ => ⟨[], rfl, fun i v h => by simp at h⟩
 | y :: ys, k, h => by
  obtain ⟨t0, h0⟩ := h 0 y rfl
  obtain ⟨ts, hl, ht⟩ := fJ P ys (k + 1) fun i v e => by
   have := h (i + 1) v (by simpa using e)
   rwa [show k + (i + 1) = k + 1 + i from by omega] at this
  refine ⟨t0 :: ts, by simp [hl], fun i v e => ?_⟩
  cases i with
  | zero => cases e; exact ⟨t0, rfl, h0⟩
  | succ i =>
   obtain ⟨t, e2, p⟩ := ht i v (by simpa using e)
   refine ⟨t, by simpa using e2, ?_⟩
   rwa [show k + (i + 1) = k + 1 + i from by omega]
theorem log2_small {m : Nat} (h : m < 10 ^ 20) : m.log2 < 1920 := by
 by_cases h0 : m = 0
 ·subst h0; decide
 ·exact Nat.lt_trans ((Nat.log2_lt h0).mpr (Nat.lt_trans h (by decide : 10 ^ 20 < 2 ^ 70))) Z0
end Mine
namespace L2
open PySem PySem.Spec PyProof.Rows PySem.W
section
variable {X : Cx} {x : Str} {pos : Pos}
theorem Ri {y : Addr} (h : X.mg x = some (.ref y)) (hg : Gl X x := by rfl) (hd : (x == ("__debug__" : Str)) = false := by decide) : PE X (.Name x pos) (tC (.ref y)) := yr hg h rfl hd
def Lw (K : Frag) : List V -> Hp -> VK -> Prop := fun xs H Q => ∃ x t c b, xs = [x, .ref c] /\ pM K H x t /\ kitOne K t (.ref c) = some b /\ Q (.bl b) H
theorem Cr : jg X (.builtin "isinstance") (Lw X.K) := by
 intro pins s σ H xs us Q I r h
 obtain ⟨x, t, c, b, rfl, ty, e, q⟩ := h
 obtain ⟨u, u2, rfl, rx, ry⟩ := vals2 r
 cases (show u2 = Value.ref c from ry)
 exact Ff I rx ty e fun tk => ⟨.bl b, H, I.tok tk, rfl, q⟩
end
structure RCl (K : Frag) (C : Addr) : Prop where
 cl : Cls K C
 ha : findIn K (.ref C) "__class__" = some (some (.builtin "object.__class__"))
 hn : specialIn K (.builtin "object.__class__") "__get__" = some (some (.builtin "getset_descriptor.__get__"))
 htk : takesIn K (.builtin "object.__class__") = some true
 hm : mroIn K C (.type "object") = some true
theorem RCl.ty {K : Frag} {C a dx : Addr} {H : Hp} {fs : List (Str × V)} (c : RCl K C) (e : H a = some (.ins C dx fs)) : pM K H (.ref a) (.ref C) := .ins e c.cl c.ha c.hn c.htk c.hm
structure MkN (K : Frag) (C : Addr) : Prop where
 makes : makesIn K C = true
 init : findIn K (.ref C) "__init__" = some (some (.builtin "object.__init__"))
 kp : keepIn K (.ref C) = true
section
variable {X : Cx} {C : Addr} {x : Str} {p pos : Pos}
end
section
variable {X : Cx} {C f : Addr} {k : Nat} {fd : FuncData} {ps : List Str} {sp : Sp} {x : Str} {p pos : Pos} {e : Expr} {es : List Expr} {t : TA}
theorem qT (M : Mk X.K C f) (b : Binds X.K fd ps []) (G : aL X.prog X.w X.K X.mg X.base CX0 k f fd ps sp) (hr : aY (k + 1) X.A) (hm : X.mg x = some (.ref C)) (ha : PA X (e :: es) t) (hg : Gl X x := by rfl)
  (hdb : (x == ("__debug__" : Str)) = false := by decide) (he : starEach (e :: es) X.env = (false, eval e X.env) :: starEach es X.env := by rfl) (hpl : (backTo pos (starEach es X.env)).any (·.1) = false := by rfl) :
  PE X (.Call (.Name x p) (e :: es) [] pos) (Kw C sp [] E0 t) := JG M G hr hg hm b .nil jl ha hdb he hpl
end
def VM (P : Program) (w : World) (K : Frag) (mg : MG) (base : Heap) (k : Nat) (C : Addr) (m : Str) (sp : Sp) : Prop := ∃ f fd ps, Meth K C m f /\ aL P w K mg base CX0 k f fd ps sp /\ Binds K fd ps []
def MV (P : Program) (w : World) (K : Frag) (mg : MG) (base : Heap) (k : Nat) (m : Str) (x : V) (H : Hp) (Q : VK) : Prop :=
 ∃ a C dx fs sp, x = .ref a /\ H a = some (.ins C dx fs) /\ fs.lookup m = none /\ Cls K C /\ VM P w K mg base k C m sp /\ sp [x] H Q E0
def Lq (P : Program) (w : World) (K : Frag) (mg : MG) (base : Heap) (k : Nat) (m : Str) (ta : TE) : TE := fun σ H Q => ta σ H fun x H1 => MV P w K mg base k m x H1 Q
section
variable {X : Cx} {P : Program} {w : World} {K : Frag} {mg : MG} {base : Heap} {k : Nat} {m : Str} {o : Expr} {ta : TE} {pos apos : Pos}
theorem uo {pl : Sem Bool} (h1 : X.prog = P) (h2 : X.w = w) (h3 : X.K = K) (h4 : X.mg = mg) (h5 : X.base = base) (hr : aY k X.A) (he : PE X o ta)
  (ht : eval (.Call (.Attribute o m apos) [] [] pos) X.env = (do
   let ov <- eval o X.env
   standAt apos.atName
   let (f, first) <- holding [ov] (getMethod ov m pl)
   callWith pos f first (backTo pos (starEach [] X.env)) (backToKw pos (keywordEach [] X.env))) := by rfl) :
  PE X (.Call (.Attribute o m apos) [] [] pos) (Lq P w K mg base k m ta) := by
 subst h1 h2 h3 h4 h5
 intro pins s σ H Q I h
 refine methodCall_KW (pl := pl) (thn (he pins s σ H _ I h) fun u s1 hz => ?_) ht
 obtain ⟨x, H1, I1, rx, a, C, dx, fs, sp, ex, ea, l, c, ⟨f, fd, ps, hm, F, hb⟩, q⟩ := hz
 subst ex
 obtain rfl : u = Value.ref a := rx
 refine mJ I1 ea c hm l ?_
 exact PySem.W.callWith_K0 (first := [.ref a]) I1.kIn hm.kp (xR (us := [.ref a]) (vs := [.ref a]) (dvs := []) (ds := []) F hr hb .nil jl I1 (.cons rfl .nil) q)
end
section
variable {X : Cx} {o value : Expr} {f : Str} {pos pos' : Pos} {ta tv : TE}
theorem fB (ha : PE X o ta) (hv : PE X value tv) (hs : swapsWith value (some (.Attribute o f pos')) pos.line X.env = pure false := by rfl) : QS X (.Assign [.Attribute o f pos'] value pos) (Qz X.K ta tv f) := ⟨Np ha hv hs⟩
end
structure MAt (K : Frag) (m q : Str) (st : Stmt) (ps : List Str) (f : Addr) (fd : FuncData) : Prop where
 F : Fun K m q st f fd
 b : Binds K fd ps []
theorem rdF {K : Frag} {H : Hp} {a C dx : Addr} {fs : List (Str × V)} {v : V} {f : Str} {q : V -> Prop} (ha : H a = some (.ins C dx fs)) (c : Cls K C) (n : bW K C f) (l : fs.lookup f = some v) (h : q v) :
  ∃ a' C' dx' fs' v', V.ref a = .ref a' /\ H a' = some (.ins C' dx' fs') /\ Cls K C' /\ bW K C' f /\ fs'.lookup f = some v' /\ q v' := ⟨a, C, dx, fs, v, rfl, ha, c, n, l, h⟩
theorem rD {p : Nat -> Prop} (h0 : p 0) (h1 : p 1) (h2 : p 2) (h3 : p 3) (h4 : p 4) (h5 : p 5) (h6 : p 6) (i : Nat) (h : i <= 6) : p i := by
 cases i with
 | zero => exact h0
 | succ i => cases i with
  | zero => exact h1
  | succ i => cases i with
   | zero => exact h2
   | succ i => cases i with
    | zero => exact h3
    | succ i => cases i with
     | zero => exact h4
     | succ i => cases i with
      | zero => exact h5
      | succ i => cases i with
       | zero => exact h6
       | succ i => exact absurd h Z1
theorem lL {H : Hp} {p b : Addr} {o : HO} (h : upd H p o b = none) : H b = none /\ b ≠ p := by
 unfold upd at h
 split at h
 ·cases h
 ·exact ⟨h, ‹_›⟩
theorem lkP {f : Str} {y : V} {fs : List (Str × V)} : (lO f y fs).lookup f = some y := by rw [jx, if_pos rfl]
theorem lkN {f g : Str} {y : V} {fs : List (Str × V)} (h : ¬ g = f) : (lO f y fs).lookup g = fs.lookup g := by rw [jx, if_neg h]
theorem zF {f : Str} {y : V} {fs : List (Str × V)} {n : Nat} (h : fs.length < n) : (lO f y fs).length < n + 1 := by have := n6 f y fs; omega
def SameBut (x : Addr) (H H' : Hp) : Prop := ∀ b o, H b = some o -> b ≠ x -> H' b = some o
theorem sb3 {H : Hp} {x l : Addr} {o1 o2 o3 : HO} (hl : H l = none) : SameBut x H (upd (upd (upd H x o1) l o2) x o3) := fun b o e hb => by
 rw [aK hb, aK (aD e hl), aK hb]; exact e
theorem sb2 {H : Hp} {x l : Addr} {o1 o2 : HO} (hl : H l = none) : SameBut x H (upd (upd H l o1) x o2) := fun b o e hb => by
 rw [aK hb, aK (aD e hl)]; exact e
theorem aR {K : Frag} {C D : Addr} {b : Bool} (m : mroIn K C (.ref D) = some b) (sD : mroIn K D (.ref D) = some true) (o : mroIn K D (.type "object") = some true) (ty : typeIn K (.ref D) = some (.type "type")) : kitOne K (.ref C) (.ref D) = some b := by
 unfold kitOne
 by_cases e : (Value.ref C == Value.ref D) = true
 ·rw [if_pos e]
  have e' : C = D := by cases eq_of_beq e; rfl
  subst e'
  rw [m] at sD; exact sD.symm
 ·rw [if_neg e]
  cases h : clsIn K D with
  | none => unfold mroIn at o; rw [h] at o; cases o
  | some cd =>
   show (if ((clsIn K D).isSome && typeIn K (.ref D) == some (.type "type")) = true then mroIn K C (.ref D) else none) = _
   rw [h, ty, if_pos Z2, m]
theorem jk {K : Frag} {a : Addr} {xs : List V} {g : TG} {te : TE} {τ0 : St} {H : Hp} {Fin : List V -> Hp -> Prop} (S : St -> Prop) (R : Nat -> V -> Hp -> Prop) (hm : ∀ i v H' H'', R i v H' -> az H' H'' -> R i v H'') (hn : xs.length <= sizeLine) (hl : SqL K H a xs) (h0 : S τ0)
  (hte : ∀ (i : Nat) x τ H' (Q : St -> V -> Hp -> Prop), xs[i]? = some x -> az H H' -> S τ -> (∀ τ2 v H'', S τ2 -> az H' H'' -> R i v H'' -> Q τ2 v H'') -> g x τ H' fun τ2 H2 => te τ2 H2 fun y H4 => Q τ2 y H4)
  (hfin : ∀ ys H', az H H' -> ys.length = xs.length -> (∀ (i : Nat) v, ys[i]? = some v -> R i v H') -> Fin ys H') : qN g Cv te (Itl K a) τ0 H Fin := by
 refine ⟨fun i m τ ys H' => m = xs.length - i /\ i <= xs.length /\ ys.length = i /\ (∀ (j : Nat) v, ys[j]? = some v -> R j v H') /\ az H H' /\ S τ, ⟨xs.length, rfl, zero_le _, rfl, fun j v h => by simp at h, az.refl _, h0⟩, ?_⟩
 rintro i m τ ys H' ⟨rfl, hi, hyl, hr, sm, hS⟩
 by_cases hlt : i < xs.length
 ·refine .inr ⟨⟨xs, xs[i], sm.seq hl, by simp [hlt]⟩, fun x H'' y => ?_⟩
  obtain ⟨e, y⟩ := y
  subst e
  have hx := y xs (sm.seq hl)
  have key := hte i x τ H'' (fun τ2 y H4 => ys.length < sizeLine /\ ∃ m', m' < xs.length - i /\ (m' = xs.length - (i + 1) /\ i + 1 <= xs.length /\ (ys ++ [y]).length = i + 1 /\ (∀ (j : Nat) v, (ys ++ [y])[j]? = some v -> R j v H4) /\ az H H4 /\ S τ2)) hx sm hS fun τ2 v H4 s2 s4 hv => by
   refine ⟨Z1, xs.length - (i + 1), Z1, rfl, hlt, by rw [length_append, hyl]; rfl, fun j u hj => ?_, sm.trans s4, s2⟩
   by_cases hji : j < ys.length
   ·rw [getElem?_append_left hji] at hj
    exact hm _ _ _ _ (hr j u hj) s4
   ·rw [getElem?_append_right Z1] at hj
    have hj0 : j - ys.length = 0 := by
     cases hh : j - ys.length with
     | zero => rfl
     | succ k => rw [hh] at hj; simp at hj
    rw [hj0] at hj
    have : j = i := by omega
    subst this
    have : v = u := by simpa using hj
    subst this
    exact hv
  exact key
 ·have e : i = xs.length := by omega
  subst e
  exact .inl ⟨⟨xs, sm.seq hl, le_refl _⟩, hfin ys H' sm hyl hr⟩
theorem len0 {α : Type} {us : List α} (h : us.length = 0) : us = [] := List.length_eq_zero_iff.mp h
theorem DK {α : Type} {us : List α} {n : Nat} (h : us.length = n + 1) : ∃ a r, us = a :: r /\ r.length = n := by
 cases us with
 | nil => cases h
 | cons a r => exact ⟨a, r, rfl, Nat.succ.inj h⟩
theorem Og {α : Type} {us : List α} (h : us.length = 1) : ∃ a, us = [a] := by
 obtain ⟨a, r, rfl, k⟩ := DK h
 exact ⟨a, by rw [len0 k]⟩
theorem Pk {α : Type} {us : List α} (h : us.length = 2) : ∃ a b, us = [a, b] := by
 obtain ⟨a, r, rfl, k⟩ := DK h
 obtain ⟨b, rfl⟩ := Og k
 exact ⟨a, b, rfl⟩
theorem Qu {α : Type} {us : List α} (h : us.length = 3) : ∃ a b c, us = [a, b, c] := by
 obtain ⟨a, r, rfl, k⟩ := DK h
 obtain ⟨b, c, rfl⟩ := Pk k
 exact ⟨a, b, c, rfl⟩
theorem Rc {α : Type} {us : List α} (h : us.length = 4) : ∃ a b c d, us = [a, b, c, d] := by
 obtain ⟨a, r, rfl, k⟩ := DK h
 obtain ⟨b, c, d, rfl⟩ := Qu k
 exact ⟨a, b, c, d, rfl⟩
end L2
namespace Mine
open PySem PySem.Spec PyProof.Rows L2 PySem.Builtin PySem.Builtin.Str
structure bV where
 so : Nat
 nm : Str
 ad : Str
 wd : Str
 ts : List Trm
def jH : Nat -> Str
 | 0 => "let"
 | 1 => "deed"
 | 2 => "draw"
 | 3 => "late"
 | 4 => "take"
 | _ => "need"
structure bO (ys : List Str) : Prop where
 lo : ys ≠ []
 hi : ys.length <= 3
 nm : ∀ y ∈ ys, cQ y
structure GoodR (r : bV) : Prop where
 so : r.so <= 5
 nm : r.so < 5 -> cQ r.nm
 no : r.so = 5 -> r.nm = ""
 ad : ∃ ys, bO ys /\ r.ad = dotted ys
 wd : cQ r.wd
 ts : yD r.ts
 dd : r.so = 1 -> ∀ t ∈ r.ts, ∀ ys, t.th ≠ .nms true ys
theorem bO.len {ys : List Str} (h : bO ys) : (dotted ys).length <= 36 := p8.len ⟨h.lo, le_trans h.hi Z0, h.nm⟩
theorem GoodR.nl {r : bV} (h : GoodR r) : r.nm.length <= 8 := by
 rcases lt_or_ge r.so 5 with k | k
 ·exact (h.nm k).hi
 ·rw [h.no (by have := h.so; omega)]; decide
theorem GoodR.al {r : bV} (h : GoodR r) : r.ad.length <= 36 := by
 obtain ⟨ys, g, e⟩ := h.ad
 rw [e]; exact g.len
theorem GoodR.tl {r : bV} (h : GoodR r) : (textOf r.ts).length <= 480 := by
 have := Bt (ts := r.ts) fun t ht => h.ts.ok t ht
 have := h.ts.hi
 omega
def bQ (r : bV) : Str := match r.so with
 | 0 => "let " ++ r.nm ++ " be " ++ textOf r.ts
 | 1 => "deed " ++ r.nm ++ " be " ++ textOf r.ts
 | 2 => "draw " ++ r.ad ++ " as " ++ r.nm
 | 3 => "late " ++ r.ad ++ " as " ++ r.nm
 | 4 => "take " ++ r.wd ++ " from " ++ r.ad ++ " as " ++ r.nm
 | _ => "need " ++ textOf r.ts
def dR (r : bV) : List Str := if r.so = 2 \/ r.so = 3 \/ r.so = 4 then [r.ad] else []
theorem ud : (("let " : Str)).length = 4 := by decide +kernel
theorem qj : (("deed " : Str)).length = 5 := by decide +kernel
theorem qK : (("draw " : Str)).length = 5 := by decide +kernel
theorem qI : (("late " : Str)).length = 5 := by decide +kernel
theorem lG : (("take " : Str)).length = 5 := by decide +kernel
theorem Bb : (("need " : Str)).length = 5 := by decide +kernel
theorem rB : ((" be " : Str)).length = 4 := by decide +kernel
theorem mD : ((" as " : Str)).length = 4 := by decide +kernel
theorem len_from : ((" from " : Str)).length = 6 := by decide +kernel
theorem abS {a b : Str} {m n : Nat} (ha : a.length <= m) (hb : b.length <= n) (h : m + n <= 1000 := by decide) : a.length + b.length <= sizeLine := le_trans (Nat.add_le_add ha hb) (le_trans h f9)
theorem alS {a b : Str} {m n : Nat} (ha : a.length <= m) (hb : b.length <= n) : (a ++ b).length <= m + n := by rw [lz]; exact Nat.add_le_add ha hb
structure JS (H : Hp) (fs : List (Str × V)) (l : Addr) (r : bV) : Prop where
 nm : r.so < 5 -> fs.lookup ("name" : Str) = some (.str r.nm)
 tm : r.so = 0 \/ r.so = 1 \/ r.so = 5 -> fs.lookup ("terms" : Str) = some (.ref l) /\ nR H l r.ts
 ad : r.so = 2 \/ r.so = 3 \/ r.so = 4 -> fs.lookup ("address" : Str) = some (.str r.ad)
 wd : r.so = 4 -> fs.lookup ("word" : Str) = some (.str r.wd)
 nb : fs.lookup ("binds" : Str) = none
 na : fs.lookup ("asked" : Str) = none
 ns : fs.lookup ("said" : Str) = none
def d8 (C : Nat -> Addr) (H : Hp) (a l : Addr) (r : bV) : Prop := ∃ dx fs, H a = some (.ins (C r.so) dx fs) /\ JS H fs l r
theorem JS.same {H H' : Hp} {fs : List (Str × V)} {l : Addr} {r : bV} (h : JS H fs l r) (s : az H H') : JS H' fs l r :=
 ⟨h.nm, fun k => ⟨(h.tm k).1, (h.tm k).2.same s⟩, h.ad, h.wd, h.nb, h.na, h.ns⟩
theorem d8.same {C : Nat -> Addr} {H H' : Hp} {a l : Addr} {r : bV} (h : d8 C H a l r) (s : az H H') : d8 C H' a l r := by
 obtain ⟨dx, fs, e, f⟩ := h
 exact ⟨dx, fs, s _ _ e, f.same s⟩
theorem BV.but {H H' : Hp} {v : V} {t : Trm} {x C dx : Addr} {fs : List (Str × V)} (h : BV H v t) (hx : H x = some (.ins C dx fs)) (s : SameBut x H H') : BV H' v t := by
 obtain ⟨p, y, e, hp, hy⟩ := h
 refine ⟨p, y, e, s _ _ hp (pq hp hx Z7), ?_⟩
 cases hth : t.th with
 | num m => rw [hth] at hy; exact hy
 | nms c zs =>
  rw [hth] at hy
  obtain ⟨q, e, hq⟩ := hy
  exact ⟨q, e, s _ _ hq (pq hq hx Z7)⟩
theorem KQ {r : bV} (h : r.so = 0) : bQ r = "let " ++ r.nm ++ " be " ++ textOf r.ts := by unfold bQ; rw [h]; rfl
theorem K6 {r : bV} (h : r.so = 1) : bQ r = "deed " ++ r.nm ++ " be " ++ textOf r.ts := by unfold bQ; rw [h]; rfl
theorem KN {r : bV} (h : r.so = 2) : bQ r = "draw " ++ r.ad ++ " as " ++ r.nm := by unfold bQ; rw [h]; rfl
theorem K3 {r : bV} (h : r.so = 3) : bQ r = "late " ++ r.ad ++ " as " ++ r.nm := by unfold bQ; rw [h]; rfl
theorem K1 {r : bV} (h : r.so = 4) : bQ r = "take " ++ r.wd ++ " from " ++ r.ad ++ " as " ++ r.nm := by unfold bQ; rw [h]; rfl
theorem KD {r : bV} (h : r.so = 5) : bQ r = "need " ++ textOf r.ts := by unfold bQ; rw [h]; rfl
def sJ (i j : Nat) : Bool := decide (i = j) || decide (j = 6)
theorem HJ {i j : Nat} (hi : i <= 5) (hj : j <= 5) : decide (V.str (jH i) = V.str (jH j)) = sJ i j := by
 have k : ∀ i j : Fin 6, decide (V.str (jH i.val) = V.str (jH j.val)) = sJ i.val j.val := by decide +kernel
 exact k ⟨i, Z1⟩ ⟨j, Z1⟩
end Mine
namespace L2
open PySem PySem.Spec PyProof.Rows PySem.W
section
variable {X : Cx} {pos : Pos} {t : TS}
end
end L2
namespace Mine
open PySem PySem.Spec PyProof.Rows L2 PySem.Builtin PySem.Builtin.Str
theorem Hh {r : bV} (g : GoodR r) : (bQ r).length <= 1000 := by
 have e1 := g.nl
 have e2 := g.al
 have e3 := g.tl
 have e4 := g.wd.hi
 obtain ⟨so, nn, aa, ww, tt⟩ := r
 have h5 : so <= 5 := g.so
 have e1 : nn.length <= 8 := e1
 have e2 : aa.length <= 36 := e2
 have e3 : (textOf tt).length <= 480 := e3
 have e4 : ww.length <= 8 := e4
 have hc : so = 0 \/ so = 1 \/ so = 2 \/ so = 3 \/ so = 4 \/ so = 5 := by omega
 rcases hc with rfl | rfl | rfl | rfl | rfl | rfl
 ·rw [KQ rfl]; simp only [lz, ud, rB]; omega
 ·rw [K6 rfl]; simp only [lz, qj, rB]; omega
 ·rw [KN rfl]; simp only [lz, qK, mD]; omega
 ·rw [K3 rfl]; simp only [lz, qI, mD]; omega
 ·rw [K1 rfl]; simp only [lz, lG, len_from, mD]; omega
 ·rw [KD rfl]; simp only [lz, Bb]; omega
end Mine
namespace En
open PySem PySem.Spec PyProof.Rows
section
variable {prog : Program} {w : World} {A : Around} {E : EV} {s : Shared}
theorem next_item {e j l : Addr} {i : Nat} {k : Int} {its : Array Value} {x old : Value} {Q : Option Value -> Shared -> Prop}
  (q1 : IsEnum s.heap e j k old) (q2 : s.heap.IsListIter j l i) (q3 : s.heap.IsList l its) (q4 : its[i]? = some x) (ne : e ≠ j)
  (kQ : ∀ h', IsEnumOut h' e j (k + 1) x s.heap.objs.size -> h'.IsListIter j l (i + 1) -> h'.get? s.heap.objs.size = some { cls := .type "tuple", data := .seq #[.int k s.toks, x] } ->
   (∀ b o, b ≠ e -> b ≠ j -> s.heap.get? b = some o -> h'.get? b = some o) -> Q (some (.ref s.heap.objs.size)) { s with heap := h', toks := s.toks + 1 }) :
  wpAny (model prog w) A (pyNext (.ref e)) Q E s := by
 have ty : s.TypeIs (.ref e) "enumerate" := ⟨_, q1, rfl⟩
 unfold pyNext
 refine wpAny_bind (wpAny_attempt (wpAny_callSpecial?_slot (name := Str.ofString "__next__") ty F.slot_enumerate_next (wpAny_call_entry F.slot_enumerate_next ty F.entry_enumerate_next ?_ (F.args_enumerate_next_1 _))))
 obtain ⟨hp, g, d, tk, os⟩ := s
 show wpAny _ _ (field (.ref e) 2 >>= _) _ _ _
 refine wpAny_bind (wpAny_field q1 rfl (x := .ref j) rfl (wpAny_bind (wpAny_nextOf_list_item q2 q3 q4 fun h1 r1 z1 => ?_)))
 replace z1 : Heap.SameBut j hp h1 := z1
 have a1 : IsEnum h1 e j k old := (z1.2 e ne).trans q1
 show wpAny _ _ (field (.ref e) 3 >>= _) _ _ ⟨h1, g, d, tk, os⟩
 refine wpAny_bind (wpAny_field a1 rfl (x := rawInt k) rfl ?_)
 show wpAny _ _ (field (.ref e) 4 >>= _) _ _ ⟨h1, g, d, tk, os⟩
 refine wpAny_bind (wpAny_field a1 rfl (x := .none) rfl ?_)
 show wpAny _ _ (mkInt k >>= _) _ _ ⟨h1, g, d, tk, os⟩
 refine wpAny_bind (wpAny_mkInt ?_)
 show wpAny _ _ (setField (.ref e) 3 (rawInt (k + 1)) >>= _) _ _ ⟨h1, g, d, tk + 1, os⟩
 refine wpAny_bind (wpAny_setField_rec a1 Z2 fun h2 a2 z2 => ?_)
 replace z2 : Heap.SameBut e h1 h2 := z2
 replace a2 : IsEnum h2 e j (k + 1) old := a2
 show wpAny _ _ (setField (.ref e) 4 .none >>= _) _ _ ⟨h2, g, d, tk + 1, os⟩
 refine wpAny_bind (wpAny_setField_rec a2 Z2 fun h3 a3 z3 => ?_)
 replace z3 : Heap.SameBut e h2 h3 := z3
 replace a3 : IsEnum h3 e j (k + 1) old := a3
 show wpAny _ _ (newTuple [.int k tk, x] >>= _) _ _ ⟨h3, g, d, tk + 1, os⟩
 refine wpAny_bind (wpAny_newTuple ?_)
 have a4 : IsEnum (h3.push { cls := .type "tuple", data := .seq #[.int k tk, x] }) e j (k + 1) old := Heap.get?_push_of_some _ a3
 generalize hh : h3.push { cls := .type "tuple", data := .seq #[.int k tk, x] } = h4 at a4
 have sz : h3.objs.size = hp.objs.size := by rw [z3.1, z2.1, z1.1]
 have el : e < hp.objs.size := Heap.lt_size q1
 have t4 : h4.get? hp.objs.size = some { cls := .type "tuple", data := .seq #[.int k tk, x] } := by rw [<- hh, <- sz]; exact Heap.get?_push_size _ rfl
 have k4 : ∀ b o, b ≠ e -> b ≠ j -> hp.get? b = some o -> h4.get? b = some o := fun b o be bi hb => by
  rw [<- hh]; exact Heap.get?_push_of_some _ (z3.extBut b o be (z2.extBut b o be (z1.extBut b o bi hb)))
 have r4 : h4.IsListIter j l (i + 1) := by
  rw [<- hh]; obtain ⟨o, ho, r⟩ := (r1.extBut z2.extBut (Ne.symm ne)).extBut z3.extBut (Ne.symm ne); exact ⟨o, Heap.get?_push_of_some _ ho, r⟩
 show wpAny _ _ (Builtin.SmallTypes.ownedTupleIsFree (.ref e) >>= _) _ _ ⟨h4, g, d, tk + 1, os⟩
 rw [sz]
 clear hh a3 z3 a2 z2 a1 z1 r1 sz h3 h2 h1
 refine wpAny_bind ?_
 unfold Builtin.SmallTypes.ownedTupleIsFree
 refine wpAny_bind (wpAny_field a4 rfl (x := .none) rfl (wpAny_pure ?_))
 simp only [if_true]
 refine wpAny_bind (wpAny_rule (wpAny_bind (wpAny_field a4 rfl (x := old) rfl (wpAny_bind (wpAny_setField_rec a4 Z2 fun h5 a5 z5 => ?_)))))
 replace z5 : Heap.SameBut e h4 h5 := z5
 replace a5 : IsEnum h5 e j (k + 1) x := a5
 show wpAny _ _ (Builtin.SmallTypes.ownedTupleHandOut (.ref e) (.ref hp.objs.size) >>= _) _ _ ⟨h5, g, d, tk + 1, os⟩
 refine wpAny_bind ?_
 unfold Builtin.SmallTypes.ownedTupleHandOut
 refine wpAny_bind (wpAny_setField_rec a5 Z2 fun h6 a6 z6 => ?_)
 replace z6 : Heap.SameBut e h5 h6 := z6
 replace a6 : IsEnumOut h6 e j (k + 1) x hp.objs.size := a6
 refine wpAny_setField_rec a6 Z2 fun h7 a7 z7 => ?_
 replace z7 : Heap.SameBut e h6 h7 := z7
 replace a7 : IsEnumOut h7 e j (k + 1) x hp.objs.size := a7
 refine wpAny_bind (wpAny_letGo (wpAny_pure ⟨_, rfl, wpAny_pure (kQ h7 a7 ?_ ?_ ?_)⟩))
 ·exact ((r4.extBut z5.extBut (Ne.symm ne)).extBut z6.extBut (Ne.symm ne)).extBut z7.extBut (Ne.symm ne)
 ·exact z7.extBut _ _ (ne_of_gt el) (z6.extBut _ _ (ne_of_gt el) (z5.extBut _ _ (ne_of_gt el) t4))
 ·exact fun b o be bi hb => z7.extBut b o be (z6.extBut b o be (z5.extBut b o be (k4 b o be bi hb)))
theorem next_end {e j l : Addr} {i : Nat} {k : Int} {its : Array Value} {old : Value} {Q : Option Value -> Shared -> Prop} (hh : A.handled = none)
  (q1 : IsEnum s.heap e j k old) (q2 : s.heap.IsListIter j l i) (q3 : s.heap.IsList l its) (q4 : its[i]? = none)
  (kQ : ∀ h', Heap.ExtBut j s.heap h' -> Q none { s with heap := h' }) : wpAny (model prog w) A (pyNext (.ref e)) Q E s := by
 have ty : s.TypeIs (.ref e) "enumerate" := ⟨_, q1, rfl⟩
 unfold pyNext
 refine wpAny_bind (wpAny_attempt (wpAny_callSpecial?_slot (name := Str.ofString "__next__") ty F.slot_enumerate_next (wpAny_call_entry F.slot_enumerate_next ty F.entry_enumerate_next ?_ (F.args_enumerate_next_1 _))))
 show wpAny _ _ (field (.ref e) 2 >>= _) _ _ _
 refine wpAny_bind (wpAny_field q1 rfl (x := .ref j) rfl (wpAny_bind (wpAny_nextOf_list_end hh q2 q3 q4 fun h' x hx ho => ?_)))
 obtain ⟨o, ho, hc⟩ := ho
 exact wpAny_bind (wpAny_isInstance (T := "StopIteration") (b := true) ⟨o, ho, hc⟩ isSubtype_stop (wpAny_pure (kQ _ hx)))
end
end En
namespace L2
open PySem PySem.Spec PyProof.Rows
def Ite (K : Frag) (a : Addr) (k : Int) : It :=
 ⟨fun i H => ∃ xs x, SqL K H a xs /\ xs[i]? = some x, fun i H v H' => ∃ p x, v = .ref p /\ H p = none /\ (∀ xs, SqL K H a xs -> xs[i]? = some x) /\ H' = upd H p (.tup [.int (k + i), x]), fun i H => ∃ xs, SqL K H a xs /\ xs.length <= i⟩
theorem Fq {P : Program} {w : World} {K : Frag} {elts : List Expr} {x1 : Nat} {tpos : Pos} (a e j : Addr) (k : Int) (ne : e ≠ j) :
  Turn P w K (.Tuple elts x1 tpos) (Ite K a k) [e, j] e (fun i h => (∃ old, IsEnum h e j (k + i) old) /\ h.IsListIter j a i) where
 mem := .head _
 obj := fun i h st c hc => by
  obtain ⟨⟨old, hz⟩, h1⟩ := st
  cases hc with
  | head => exact ⟨_, hz, fun v z => by cases z⟩
  | tail _ hc => cases hc with
   | head => obtain ⟨o, e, _, d⟩ := h1; exact ⟨o, e, fun v z => by rw [d] at z; cases z⟩
   | tail _ hc => cases hc
 keep := fun i h h' st k => by
  obtain ⟨⟨old, hz⟩, h1⟩ := st
  exact ⟨⟨old, k e (.head _) _ hz⟩, h1.at fun o e => k j (.tail _ (.head _)) o e⟩
 item := by
  intro X hP hw hK hc i pins s σ H E I hf st hg
  subst hP hw hK
  obtain ⟨xs, x, hq, hx⟩ := hg
  obtain ⟨⟨old, hz⟩, h1⟩ := st
  obtain ⟨us, rv, p, hsz⟩ := I.list hq
  obtain ⟨u, hu, ru⟩ := rv.get hx
  have lt : ∀ {c o}, s.heap.get? c = some o -> c ≠ s.heap.objs.size := fun e => ne_of_lt (Heap.lt_size e)
  refine En.next_item hz h1 p.isList (x := u) (by simpa using hu) ne fun h' a1 a2 a3 hk => ?_
  refine ⟨_, rfl, wpAny_letOwnedTupleGo_enum a1 fun h'' hz' hs' => ?_⟩
  have hfr : H s.heap.objs.size = none := I.hok.fresh (le_refl _)
  have hT : h''.get? s.heap.objs.size = some { cls := .type "tuple", data := .seq #[.int (k + i) s.toks, u] } := (hs'.2 _ (Ne.symm (lt hz))).trans a3
  have kk : ∀ c o, c ≠ e -> c ≠ j -> s.heap.get? c = some o -> h''.get? c = some o := fun c o q1 q2 e' => (hs'.2 c q1).trans (hk c o q1 q2 e')
  have fe := hf e (.head _)
  have fj := hf j (.tail _ (.head _))
  have hch : ∀ c, c ∉ [e, j] -> c ≠ e /\ c ≠ j := fun c hc => ⟨fun z => hc (z ▸ .head _), fun z => hc (z ▸ .tail _ (.head _))⟩
  have trk : ∀ c o, H c = some o -> c ≠ e /\ c ≠ j := fun c o q => ⟨(fun z => by rw [z, fe.1] at q; cases q), (fun z => by rw [z, fj.1] at q; cases q)⟩
  have I1 : Inv X pins σ (upd H s.heap.objs.size (.tup [.int (k + i), x])) { s with heap := h'', toks := s.toks + 1 } := by
   refine I.step (g' := s.gens) (d' := s.drawn) (t' := s.toks + 1) (ch := [e, j]) (fun c hc => ?_) (fun c o _ _ hc e' _ => ?_) (fun c o _ _ hc e' _ => ?_) (fun c o hc e' n => ?_) (fun c o hc e' => ?_) (fun c q e' => ?_) (fun c o q e' => ?_) (fun c q e' => ?_) (fun m hm => ?_) (fun c o e' => ?_) I.bare
   ·cases hc with
    | head => exact ⟨fe.2.2.2.1, fe.2.1, fe.2.2.2.2.1, fe.2.2.2.2.2⟩
    | tail _ hc => cases hc with
     | head => exact ⟨fj.2.2.2.1, fj.2.1, fj.2.2.2.2.1, fj.2.2.2.2.2⟩
     | tail _ hc => cases hc
   ·exact kk c o (hch c hc).1 (hch c hc).2 e'
   ·exact ⟨o.slots, kk c o (hch c hc).1 (hch c hc).2 e'⟩
   ·rw [aK (lt e')]; exact n
   ·exact ⟨o, kk c o (hch c hc).1 (hch c hc).2 e'⟩
   ·rw [aK (aD e' hfr)]; exact e'
   ·rw [aK (aD e' hfr)]; exact e'
   ·exact ⟨#[], by rw [aK (aD e' hfr), e']; simp⟩
   ·obtain ⟨o, es, ep, ho, r⟩ := hm
    exact ⟨o, es, ep, kk _ o (Ne.symm fe.2.1) (Ne.symm fj.2.1) ho, r⟩
   ·by_cases hcT : c = s.heap.objs.size
    ·subst hcT
     rw [ak] at e'
     cases e'
     exact ⟨by show 2 <= sizeLine; decide, [.int (k + i) s.toks, u], .cons ⟨_, rfl⟩ (.cons ru .nil), ⟨_, hT, rfl, _, rfl⟩⟩
    ·rw [aK hcT] at e'
     obtain ⟨q1, q2⟩ := trk c o e'
     refine (I.hok c o e').stay (fun d w' hd q => ?_) (fun d q => ?_) fun d w' q => ?_
     ·have : d ≠ e /\ d ≠ j := by
       rcases hd with rfl | hd
       ·exact ⟨q1, q2⟩
       ·exact trk d _ hd
      exact kk d w' this.1 this.2 q
     ·rw [aK (aD q hfr)]; exact q
     ·rw [aK (aD q hfr)]; exact q
  refine ⟨.ref s.heap.objs.size, _, I1, rfl, ⟨s.heap.objs.size, x, rfl, hfr, fun zs hq' => by rw [I.list_inj hq' hq]; exact hx, rfl⟩, ?_, fun c hc => ?_⟩
  ·refine ⟨⟨u, ?_⟩, a2.at fun o q => (hs'.2 j (Ne.symm ne)).trans q⟩
   have := hz'
   rwa [show k + (i : Int) + 1 = k + ((i + 1 : Nat) : Int) from by omega] at this
  ·have hc0 := (hf c hc).1
   have hne : c ≠ s.heap.objs.size := by
    cases hc with
    | head => exact lt hz
    | tail _ hc => cases hc with
     | head => obtain ⟨_, q, _⟩ := h1; exact lt q
     | tail _ hc => cases hc
   rw [aK hne]; exact hc0
 done := by
  intro X hP hw hK hc i pins s σ H E I hf st hg
  subst hP hw hK
  obtain ⟨xs, hq, hend⟩ := hg
  obtain ⟨⟨old, hz⟩, h1⟩ := st
  obtain ⟨us, rv, p, hsz⟩ := I.list hq
  have l1 := rv.length
  refine En.next_end (I.ok.hd hc) hz h1 p.isList Z6 fun h' hk => ⟨rfl, ?_⟩
  have fj := hf j (.tail _ (.head _))
  exact I.turned (t' := s.toks) (fun b o hb q => hk b o hb q) fj.1 fj.2.1 fj.2.2.2.1 fj.2.2.2.2.1 fj.2.2.2.2.2
 self := fun A i s Q E st h => by
  obtain ⟨⟨old, hz⟩, _⟩ := st
  exact wpAny_pyIter_enum hz h
section
variable {X : Cx} {K : Frag}
def PK (K : Frag) (k : Int) (ta : TA) : TI := fun σ H R => ta σ H fun vs H1 => ∃ a, vs = [.ref a] /\ (∃ xs, SqL K H1 a xs) /\ R (Ite K a k) H1
theorem JT {a : Expr} {ta : TA} {p pos : Pos} {elts : List Expr} {x1 : Nat} {tpos : Pos} (hK : X.K = K) (hg : Gl X "enumerate") (hm : X.mg "enumerate" = none) (ha : PA X [a] ta) (hs : starEach [a] X.env = [(false, eval a X.env)] := by rfl) :
  PI X (.Tuple elts x1 tpos) (.Call (.Name "enumerate" p) [a] [] pos) (PK K 0 ta) := by
 subst hK
 intro pins s σ H R I h
 refine Call_ (u0 I hg hm boot_enumerate (PyProof.Rows.callWith_type1 (thn (ha pos pins s σ H _ I h) fun us s1 ⟨vs, H1, I1, r1, q1⟩ => ?_) (by rw [hs]; rfl) rfl))
 obtain ⟨a1, e, ⟨xs, hx⟩, q⟩ := q1
 subst e
 obtain ⟨u, rfl, rx⟩ := vals1 r1
 cases rx
 obtain ⟨vs1, _, p1, _⟩ := I1.list hx
 refine call_enumerate_list p1.isList fun h' z1 z2 z3 zk => ?_
 refine wpAny_pyIter_enum z1 ?_
 have I2 : Inv X pins σ H1 { s1 with heap := h' } := I1.kept (t' := s1.toks) zk
 refine ⟨_, [s1.heap.objs.size + 1, s1.heap.objs.size], _, _, H1, rfl, I2, Fq a1 _ _ 0 (Nat.succ_ne_self _), ⟨⟨_, z1⟩, z2⟩, fun c hc => ?_, q⟩
 have hle : s1.heap.objs.size <= c := by
  cases hc with
  | head => exact le_succ _
  | tail _ hc => cases hc with
   | head => exact le_refl _
   | tail _ hc => cases hc
 exact I1.fpOk hle (I1.hok.fresh hle)
end
end L2
namespace En
open PySem PySem.Spec PyProof.Rows
open AutoSeq1 (wpAny_loadPart')
section
variable {prog : Program} {w : World} {A : Around} {E : EV} {s : Shared}
end
end En
namespace L2
open PySem PySem.Spec PyProof.Rows
section
variable {X : Cx} {K : Frag}
end
theorem Hu {K : Frag} {a : Addr} {k : Int} {xs : List V} {g : TG} {tb : TS} {D : Ends} {σ : St} {H : Hp} (Pv : Nat -> St -> Hp -> Prop) (h0 : Pv 0 σ H) (hl : ∀ i σ H, i <= xs.length -> Pv i σ H -> SqL K H a xs)
  (hs : ∀ (i : Nat) x p σ H, xs[i]? = some x -> Pv i σ H -> H p = none -> g (.ref p) σ (upd H p (.tup [.int (k + i), x])) fun σ2 H2 => tb { D with nx := Pv (i + 1), ct := Pv (i + 1), bk := D.nx } σ2 H2) (hd : ∀ σ H, Pv xs.length σ H -> D.nx σ H) :
  ∃ W : Nat -> Nat -> St -> Hp -> Prop, (∃ m, W 0 m σ H) /\ ∀ i m σ H, W i m σ H ->
   ((Ite K a k).stop i H /\ D.nx σ H) \/ ((Ite K a k).go i H /\ ∃ N : St -> Hp -> Prop, (∀ σ' H', N σ' H' -> ∃ m', m' < m /\ W (i + 1) m' σ' H') /\ ∀ x H', (Ite K a k).yld i H x H' -> g x σ H' fun σ2 H2 => tb { D with nx := N, ct := N, bk := D.nx } σ2 H2) := by
 refine ⟨fun i m σ H => m = xs.length - i /\ i <= xs.length /\ Pv i σ H, ⟨xs.length, Z2, zero_le _, h0⟩, ?_⟩
 rintro i m σ H ⟨rfl, hi, p⟩
 have q := hl i σ H hi p
 by_cases hlt : i < xs.length
 ·refine .inr ⟨⟨xs, xs[i], q, by simp [hlt]⟩, Pv (i + 1), fun σ' H' p' => ⟨xs.length - (i + 1), Z1, rfl, hlt, p'⟩, fun x H' y => ?_⟩
  obtain ⟨p0, x0, rfl, hp, hx, rfl⟩ := y
  exact hs i x0 p0 σ _ (hx xs q) p hp
 ·have e : i = xs.length := by omega
  subst e
  exact .inl ⟨⟨xs, q, le_refl _⟩, hd σ H p⟩
theorem nY {K : Frag} {a : Addr} {xs : List V} {tf : TT} {te : TE} {τ0 : St} {H : Hp} {Fin : List V -> Hp -> Prop} (p : Nat -> Bool) (f : Nat -> V) (hn : xs.length <= sizeLine) (hl : SqL K H a xs)
  (htf : ∀ (i : Nat) x H' (Q : Bool -> Hp -> Prop), xs[i]? = some x -> az H H' -> (∀ H'', az H' H'' -> Q (p i) H'') -> tf (τ0.set 0 (some x)) H' Q)
  (hte : ∀ (i : Nat) x H' (Q : VK), xs[i]? = some x -> az H H' -> (∀ H'', az H' H'' -> Q (f i) H'') -> te (τ0.set 0 (some x)) H' Q)
  (hfin : ∀ H', az H H' -> Fin (((List.range xs.length).filter p).map f) H') : qN (jJ 0) tf te (Itl K a) τ0 H Fin := by
 refine ⟨fun i m τ ys H' => m = xs.length - i /\ i <= xs.length /\ ys = ((List.range i).filter p).map f /\ az H H' /\ ∃ v, τ = τ0.set 0 v \/ τ = τ0, ⟨xs.length, rfl, zero_le _, rfl, az.refl _, none, .inr rfl⟩, ?_⟩
 rintro i m τ ys H' ⟨rfl, hi, rfl, sm, v, hτ⟩
 by_cases hlt : i < xs.length
 ·have hx : xs[i]? = some xs[i] := by simp [hlt]
  refine .inr ⟨⟨xs, xs[i], sm.seq hl, hx⟩, fun x H'' y => ?_⟩
  obtain ⟨rfl, y⟩ := y
  have ex : x = xs[i] := by have := y xs (sm.seq hl); rw [hx] at this; exact (Option.some.inj this).symm
  subst ex
  have e5 : τ.set 0 (some xs[i]) = τ0.set 0 (some xs[i]) := by
   rcases hτ with rfl | rfl
   ·rw [set_set]
   ·rfl
  show tf (τ.set 0 (some xs[i])) _ _
  rw [e5]
  refine htf i _ _ _ hx sm fun H3 s3 => ?_
  have fe : (List.range (i + 1)).filter p = (List.range i).filter p ++ (if p i = true then [i] else []) := by
   rw [range_succ, filter_append]
   by_cases h : p i = true
   ·rw [if_pos h, List.filter_cons_of_pos h, List.filter_nil]
   ·rw [if_neg h, List.filter_cons_of_neg h, List.filter_nil]
  cases hp : p i with
  | true =>
   dsimp only
   rw [if_pos rfl]
   refine hte i _ _ _ hx (sm.trans s3) fun H4 s4 => ?_
   refine ⟨?_, xs.length - (i + 1), Z1, rfl, hlt, ?_, sm.trans (s3.trans s4), _, .inl rfl⟩
   ·rw [length_map]
    have := length_filter_le p (List.range i)
    rw [length_range] at this
    omega
   ·rw [fe, if_pos hp, map_append]; rfl
  | false =>
   dsimp only
   refine ⟨xs.length - (i + 1), Z1, rfl, hlt, ?_, sm.trans s3, _, .inl rfl⟩
   rw [fe, if_neg (by rw [hp]; exact Bool.false_ne_true), append_nil]
 ·have e : i = xs.length := by omega
  subst e
  exact .inl ⟨⟨xs, sm.seq hl, le_refl _⟩, hfin H' sm⟩
section
variable {X : Cx} {e : Expr} {te : TE} {pos : Pos}
theorem FN {K : Frag} (h : X.K = K) : OpR X (compareOp .NotIn) (rIn K true) := by subst h; exact cP
end
section
variable {X : Cx}
end
theorem Cg (xs : List V) (k : Nat) : fc xs none (some (k : Int)) = xs.take k := by
 unfold fc
 rw [HT.sIx_none, HT.sIx_nat, List.drop_zero, Nat.sub_zero]
 by_cases h : k <= xs.length
 ·rw [Nat.min_eq_left h]
 ·rw [Nat.min_eq_right Z1, take_length, List.take_of_length_le Z1]
theorem Kg {xs : List V} {n : Nat} (f : Nat -> V) (hl : xs.length = n) (h : ∀ (i : Nat) v, xs[i]? = some v -> v = f i) : xs = (List.range n).map f := by
 apply ext_getElem
 ·rw [length_map, length_range, hl]
 ·intro i h1 h2
  rw [h i _ (getElem?_eq_getElem h1)]
  simp
end L2
namespace Mine
open PySem PySem.Spec PyProof.Rows L2 PySem.Builtin PySem.Builtin.Str
def oh (ks : List Int) : Str := ⟨(ks.map fun k => 97 + k.toNat).toArray⟩
def xH (ks : List Int) : Prop := ∀ k ∈ ks, 0 <= k /\ k < 26
theorem oF (ks : List Int) : (oh ks).cps.toList = ks.map fun k => 97 + k.toNat := by simp [oh]
theorem zb (ks : List Int) : (oh ks).length = ks.length := by simp [oh, Str.length]
theorem La {ks : List Int} (h1 : 1 <= ks.length) (h8 : ks.length <= 8) (h : xH ks) : cQ (oh ks) := ⟨by rw [zb]; exact h1, by rw [zb]; exact h8, fun n hn => by
 rw [oF] at hn
 obtain ⟨k, hk, rfl⟩ := mem_map.mp hn
 have := h k hk
 omega⟩
theorem Jo (ks : List Int) : Txt.join ("" : Str) (ks.map fun k => (⟨#[97 + k.toNat]⟩ : Str)) = oh ks := by
 rw [Gq]
 show glued _ _ = _
 rw [StrLaws.glued_eq_join]
 apply nP
 rw [oH, map_map, oF]
 induction ks with
 | nil => rfl
 | cons a r ih => simp only [map_cons, List.flatten_cons, ih] <;> rfl
theorem xH.take {ks : List Int} (h : xH ks) (n : Nat) : xH (ks.take n) := fun k hk => h k (mem_of_mem_take hk)
def Ad (bs : List Int) : List Str := (List.range 8).map fun i => oh (bs.take (i + 1))
theorem Ku {bs : List Int} (h : xH bs) (hl : bs.length = 8) : ∀ z ∈ Ad bs, cQ z := fun z hz => by
 obtain ⟨i, hi, rfl⟩ := mem_map.mp hz
 have hi := mem_range.mp hi
 exact La (by rw [length_take]; omega) (by rw [length_take]; omega) (h.take _)
theorem lat {b : Int} (h0 : 0 <= b) (h1 : b < 26) : atI letters.cps.toList b = some (97 + b.toNat) := by
 have h := aF (BW h0 h1)
 rwa [show ((b.toNat : Nat) : Int) = b from by omega] at h
theorem CP {zs : List Str} {x : Str} (h : zs.Nodup) (hx : x ∉ zs) : (zs ++ [x]).Nodup := by
 refine List.pairwise_append.mpr ⟨h, List.pairwise_singleton _ _, fun a ha b hb => ?_⟩
 rw [mem_singleton.mp hb]
 exact fun e => hx (e ▸ ha)
theorem Cd {ks : List Int} (h : ks.length <= 8) : ((ks.map fun k => (⟨#[97 + k.toNat]⟩ : Str)).map (·.length)).sum + (ks.map fun k => (⟨#[97 + k.toNat]⟩ : Str)).length * (("" : Str)).length <= 16777216 := by
 have h1 : ((ks.map fun k => (⟨#[97 + k.toNat]⟩ : Str)).map (·.length)).sum <= (ks.map fun k => (⟨#[97 + k.toNat]⟩ : Str)).length * 1 := nq fun y hy => by
  obtain ⟨k, _, rfl⟩ := mem_map.mp hy
  exact le_refl 1
 have h2 : (("" : Str)).length = 0 := by decide +kernel
 rw [h2]
 rw [length_map] at h1 ⊢
 omega
theorem uR {s : Str} {zs : List V} (h : V.str s ∈ zs) : inV (.str s) zs = true := by
 unfold inV
 rw [any_eq_true]
 exact ⟨_, h, by simp [eqV]⟩
end Mine
namespace L2
open PySem PySem.Spec PyProof.Rows PySem.W
abbrev b8 (C : Addr) (dx : Option Addr) (vs : Array Value) : Obj := { cls := .ref C, dict := dx, data := .fields vs }
section
variable {prog : Program} {w : World} {A : Around} {R : Result -> Shared -> Prop} {h : Heap} {g : Array GenState} {d : Drawn} {t : Nat} {os : OsState}
variable {nm q : Str} {C N : Addr} {f : Value} {bs bm bmB : List Value} {hdct : Bool} {sn : List Str} {sub : List Value} {ab : Bool} {col : Option Bool} {dd : Option Addr} {k0 k1 k2 k3 k5 : Option Value} {B newId initId : String}
theorem HQ (F : ExcBaseFacts B newId initId bmB) (T : OwnTail h bmB bm) {rest : List Value}
  (hC : h.get? C = some (excClassObj nm q C N bs bm hdct sn sub ab col dd k0 k1 k2 k3 k5 newId)) (hi : Looks (model prog w) h (typeLookup (.ref C) "__init__") (some f))
  (hb : ∀ self, Looks (model prog w) h (bindSpecial f self) (f, [self])) (hrest : rest.length <= sizeLine)
  (hq : codeAny (model prog w) (A.under (.builtin "type.__call__" ⟨.ref C :: rest, []⟩)) (.call f ⟨.ref (h.objs.size + 1) :: rest, []⟩) (InitBack (h.objs.size + 1) R)
   ⟨(h.push { cls := .type "tuple", data := .seq rest.toArray }).push (b8 C none #[.ref h.objs.size, .none, .none, .none, .bool false, .none]), g, d, t, os⟩) :
  codeAny (model prog w) A (.call (.ref C) ⟨rest, []⟩) R ⟨h, g, d, t, os⟩ := by
 have f1 := PySem.tc_lookup
 have f2 := PySem.tc_bind (.ref C)
 have hT : (⟨h, g, d, t, os⟩ : Shared).TypeIs (.ref C) "type" := ⟨_, hC, rfl⟩
 refine codeAny_of_tree ?_
 show wpAny _ _ (callAny (.ref C) _) _ _ _
 repeat (any_goals (first | assumption | with_reducible refine wpAny_loadPart_at hC ?_ | wp_step))
 refine ⟨rfl, ?_⟩
 refine codeAny_call_builtin_at (Code.quiet_builtin _ Z4) PySem.entry_typeCall (wpAny_check_type_call_sub hC ?_)
 repeat (first | with_reducible refine wpAny_loadPart_at hC ?_ | with_reducible refine wpAny_madeBy_exc hC ?_ | wp_step)
 refine codeAny_call_builtin_code (Code.quiet_builtin _ F.quiet) (wpAny_check_new_subT F T hC ?_)
 refine codeAny_exc_new_subT F T hC ?_ hrest
 show wpAny _ _ _ _ _ _
 have kp : ∀ b o, h.get? b = some o -> ((h.push { cls := .type "tuple", data := .seq rest.toArray }).push { cls := .ref C, data := .fields #[.ref h.objs.size, .none, .none, .none, .bool false, .none] }).get? b = some o := fun b o e => Heap.get?_push_of_some _ (Heap.get?_push_of_some _ e)
 have hC₁ := kp _ _ hC
 have hget : ((h.push { cls := .type "tuple", data := .seq rest.toArray }).push { cls := .ref C, data := .fields #[.ref h.objs.size, .none, .none, .none, .bool false, .none] }).get? (h.objs.size + 1) = some { cls := .ref C, data := .fields #[.ref h.objs.size, .none, .none, .none, .bool false, .none] } := by heap_get
 have hcC : (Value.ref C :: bm).contains (.ref C) = true := by simp
 have t1 : Looks (model prog w) ((h.push { cls := .type "tuple", data := .seq rest.toArray }).push { cls := .ref C, data := .fields #[.ref h.objs.size, .none, .none, .none, .bool false, .none] }) (typeOf (.ref (h.objs.size + 1))) (.ref C) := (Looks.ld hget).andThen .now
 have s1 : Looks (model prog w) ((h.push { cls := .type "tuple", data := .seq rest.toArray }).push { cls := .ref C, data := .fields #[.ref h.objs.size, .none, .none, .none, .bool false, .none] }) (isSubtype (.ref C) (.ref C)) true := fun A' Q' E' s' k q' => by
  obtain ⟨h', g', d', tk', os'⟩ := s'
  refine wpAny_isSubtype_exc (k _ _ hC₁) ?_
  rw [hcC]
  exact q'
 have i1 := hi.keeps kp
 have b1 := (hb (.ref (h.objs.size + 1))).keeps kp
 show wpAny _ _ _ _ _ ⟨(h.push { cls := .type "tuple", data := .seq rest.toArray }).push { cls := .ref C, data := .fields #[.ref h.objs.size, .none, .none, .none, .bool false, .none] }, g, d, t, os⟩
 unfold isInstance callSpecial? specialOf
 repeat (first | with_reducible refine wpAny_call ?_ | lk)
 refine codeAny_mono hq fun r s' z => ?_
 rcases r with e | (v | _ | _ | _) <;> first | exact z | exact z.elim | skip
 obtain ⟨rfl, z⟩ := z
 exact wpAny_pure (wpAny_pure z)
theorem Eu (F : ExcBaseFacts B newId initId bmB) (T : OwnTail h bmB bm) {e : Addr} {dx : Option Addr} {t0 : Addr} {a1 a2 a3 a4 a5 v : Value}
  (hC : h.get? C = some (excClassObj nm q C N bs bm hdct sn sub ab col dd k0 k1 k2 k3 k5 newId)) (he : h.get? e = some { cls := .ref C, dict := dx, data := .fields #[.ref t0, a1, a2, a3, a4, a5] })
  (hq : ∀ h', (∀ b o, b ≠ e -> h.get? b = some o -> h'.get? b = some o) -> h'.get? e = some { cls := .ref C, dict := dx, data := .fields #[.ref h.objs.size, a1, a2, a3, a4, a5] } -> R (.ok (.ret .none)) ⟨h', g, d, t, os⟩) :
  codeAny (model prog w) A (.call (.builtin initId) ⟨[.ref e, v], []⟩) R ⟨h, g, d, t, os⟩ := by
 refine (codeAny_call_builtin F.init.plain F.initEntry (wpAny_check_init_subT F T hC he rfl ?_))
 wp_walk
 have hne : e ≠ h.objs.size := ne_of_lt (Heap.lt_size he)
 refine hq _ (fun b o hb ho => ?_) ?_
 ·rw [Heap.get?_update_other _ _ (Ne.symm hb)]
  exact Heap.get?_push_of_some _ ho
 ·rw [Heap.get?_update_self _ (Heap.get?_push_of_some _ he) rfl]
  rfl
theorem HN {E : EV} (F : ExcBaseFacts B newId initId bmB) (T : OwnTail h bmB bm) {e : Addr} {dx : Option Addr} {t0 : Addr} {a1 a2 a3 a4 a5 v : Value} {Q : EV}
  (hC : h.get? C = some (excClassObj nm q C N bs bm hdct sn sub ab col dd k0 k1 k2 k3 k5 newId)) (he : h.get? e = some { cls := .ref C, dict := dx, data := .fields #[.ref t0, a1, a2, a3, a4, a5] })
  (hq : ∀ h', (∀ b o, b ≠ e -> h.get? b = some o -> h'.get? b = some o) -> h'.get? e = some { cls := .ref C, dict := dx, data := .fields #[.ref h.objs.size, a1, a2, a3, a4, a5] } -> Q .none ⟨h', g, d, t, os⟩) :
  wpAny (model prog w) A (call (.builtin initId) [.ref e, v]) Q E ⟨h, g, d, t, os⟩ := by
 refine wpAny_call (Eu F T hC he fun h' k e' => ?_)
 exact hq h' k e'
end
section
variable {prog : Program} {w : World} {A : Around} {E : EV} {s : Shared} {K : Frag} {x C : Addr} {ox : Obj} {od : Option Obj} {name : Str} {expr : Bool} {Q : EV}
theorem J6 {v : Value} (X : K.In s.heap) (I : PySem.W.InstAt s.heap x ox C od) (hga : findIn K (.ref C) "__getattribute__" = some (some (.builtin "BaseException.__getattribute__"))) (hb : mroIn K C (.type "BaseException") = some true) (hk : findIn K (.ref C) "__getattr__" = some none)
  (hf : findObj K C od name = some (.value v)) (hh : handedIn v = true) (h : Q v { s with toks := s.toks + 1 }) : wpAny (model prog w) A (getAttr (.ref x) name expr) Q E s := by
 obtain ⟨hh', g, d, t, os⟩ := s
 have L0 := I.type (M := model prog w)
 have L1 := looks_findIn (M := model prog w) X hga
 have L2 := looks_find (M := model prog w) X I hf
 unfold getAttr getAttrBy
 refine wpAny_bind (wpAny_mkText (wpAny_holding (wpAny_bind (L0.at (wpAny_bind (L1.at ?_))))))
 have LH : Looks (model prog w) hh' (hookBefore (.ref C)) none := looks_hook X (by simp only [onTheHeap]; exact hk)
 have LB : Looks (model prog w) hh' (isInstance (.ref x) (.type "BaseException")) true := L0.andThen (looks_mroIn X hb)
 show wpAny _ _ (getAttrByItsOwn (.ref x) (.str name t) (.ref C) (.builtin "BaseException.__getattribute__") true expr) _ _ ⟨hh', g, d, t + 1, os⟩
 unfold getAttrByItsOwn
 refine wpAny_bind (LH.at (wpAny_bind (wpAny_attempt (wpAny_holding ?_))))
 have hx0 : (expr && onTheHeap (Value.builtin "BaseException.__getattribute__")) = false := by cases expr <;> rfl
 have f3 := F.excAttr_ValueError.ga.bind (.ref x)
 unfold callGetattribute
 rw [hx0]
 repeat (any_goals (first | assumption | wp_step))
 show codeAny (model prog w) A (Code.call (Value.builtin "BaseException.__getattribute__") ⟨[.ref x, .str name t], []⟩) _ _
 have hk1 : builtinKind "BaseException.__getattribute__" = some .slot := by decide +kernel
 have hs1 : splitId "BaseException.__getattribute__" = some ("BaseException", "__getattribute__") := by decide +kernel
 have hc : ∀ (A' : Around) (Q' : Unit -> Shared -> Prop) (E' : EV), Q' () ⟨hh', g, d, t + 1, os⟩ -> wpAny (model prog w) A' (checkBuiltinCall "BaseException.__getattribute__" ⟨[.ref x, .str name t], []⟩) Q' E' ⟨hh', g, d, t + 1, os⟩ := fun A' Q' E' q' =>
  @check_slot (model prog w) A' E' ⟨hh', g, d, t + 1, os⟩ "BaseException.__getattribute__" "BaseException" "__getattribute__" (.ref x) [.str name t] [] Q' hk1 hs1 LB (F.args_bexc_ga (.ref x) (.str name t)) q'
 refine codeAny_call_builtin F.excAttr_ValueError.ga.plain F.entry_bexc_ga (hc _ _ _ ?_)
 unfold Builtin.«object.__getattribute__»
 repeat (first | with_reducible refine wpAny_bind (L0.at ?_) | with_reducible refine wpAny_bind (L2.at ?_) | wp_step)
 show wpAny _ _ (handedOut v) _ _ _
 rw [handedOut_of hh]; exact wpAny_pure h
end
section
variable {prog : Program} {w : World} {A : Around} {E : EV} {s : Shared} {K : Frag} {x C : Addr} {ox : Obj} {od : Option Obj} {name : Str} {expr : Bool} {Q : EV}
theorem Fi (X : K.In s.heap) (I : PySem.W.InstAt s.heap x ox C od) (hga : findIn K (.ref C) "__getattribute__" = some (some (.builtin "BaseException.__getattribute__"))) (hb : mroIn K C (.type "BaseException") = some true) (hk : findIn K (.ref C) "__getattr__" = some none)
  (hf : findObj K C od "__class__" = some (.bind (.builtin "getset_descriptor.__get__") (.builtin "object.__class__"))) (hm : mroIn K C (.type "object") = some true) {Q : Option Value -> Shared -> Prop} (h : Q (some (.ref C)) { s with toks := s.toks + 1 }) : wpAny (model prog w) A (getAttr? (.ref x) "__class__") Q E s := by
 obtain ⟨hh', g, d, t, os⟩ := s
 have L0 := I.type (M := model prog w)
 have L1 := looks_findIn (M := model prog w) X hga
 have L2 := looks_find (M := model prog w) X I hf
 unfold getAttr? getAttrBy?
 refine wpAny_bind (wpAny_mkText (wpAny_bind (wpAny_attempt ?_)))
 unfold getAttrBy
 refine wpAny_holding (wpAny_bind (L0.at (wpAny_bind (L1.at ?_))))
 have LH : Looks (model prog w) hh' (hookBefore (.ref C)) none := looks_hook X (by simp only [onTheHeap]; exact hk)
 have LB : Looks (model prog w) hh' (isInstance (.ref x) (.type "BaseException")) true := L0.andThen (looks_mroIn X hb)
 show wpAny _ _ (getAttrByItsOwn (.ref x) (.str "__class__" t) (.ref C) (.builtin "BaseException.__getattribute__") false false) _ _ ⟨hh', g, d, t + 1, os⟩
 unfold getAttrByItsOwn
 refine wpAny_bind (LH.at (wpAny_bind (wpAny_attempt (wpAny_holding ?_))))
 have hx0 : (false && onTheHeap (Value.builtin "BaseException.__getattribute__")) = false := rfl
 have f3 := F.excAttr_ValueError.ga.bind (.ref x)
 unfold callGetattribute
 rw [hx0]
 repeat (any_goals (first | assumption | wp_step))
 show codeAny (model prog w) A (Code.call (Value.builtin "BaseException.__getattribute__") ⟨[.ref x, .str "__class__" t], []⟩) _ _
 have hk1 : builtinKind "BaseException.__getattribute__" = some .slot := by decide +kernel
 have hs1 : splitId "BaseException.__getattribute__" = some ("BaseException", "__getattribute__") := by decide +kernel
 have hc : ∀ (A' : Around) (Q' : Unit -> Shared -> Prop) (E' : EV), Q' () ⟨hh', g, d, t + 1, os⟩ -> wpAny (model prog w) A' (checkBuiltinCall "BaseException.__getattribute__" ⟨[.ref x, .str "__class__" t], []⟩) Q' E' ⟨hh', g, d, t + 1, os⟩ := fun A' Q' E' q' =>
  @check_slot (model prog w) A' E' ⟨hh', g, d, t + 1, os⟩ "BaseException.__getattribute__" "BaseException" "__getattribute__" (.ref x) [.str "__class__" t] [] Q' hk1 hs1 LB (F.args_bexc_ga (.ref x) (.str "__class__" t)) q'
 refine codeAny_call_builtin F.excAttr_ValueError.ga.plain F.entry_bexc_ga (hc _ _ _ ?_)
 unfold Builtin.«object.__getattribute__»
 repeat (first | with_reducible refine wpAny_bind (L0.at ?_) | with_reducible refine wpAny_bind (L2.at ?_) | wp_step)
 refine class_get X I hm ?_
 repeat (first | exact h | wp_step)
theorem Jg (hcl : (clsIn K C).isSome = true) (hga : findIn K (.ref C) "__getattribute__" = some (some (.builtin "BaseException.__getattribute__"))) (hb : mroIn K C (.type "BaseException") = some true) (hk : findIn K (.ref C) "__getattr__" = some none)
  (hm : mroIn K C (.type "object") = some true) (hf : ∀ od, findObj K C od "__class__" = some (.bind (.builtin "getset_descriptor.__get__") (.builtin "object.__class__"))) :
  KitX K (.ref x) (.ref C) (fun h => ∃ ox od, PySem.W.InstAt h x ox C od) where
 ty := fun _ _ _ I => let ⟨_, _, I⟩ := I; I.type
 it := fun _ _ X _ => by
  obtain ⟨cdD, hcD⟩ := isSome_iff_exists.mp hcl
  unfold clsIn at hcD
  split at hcD
  ·rename_i c' d' cd' sl' ho
   intro A' Q' E' s' k q
   unfold isType loadHead
   exact wpAny_bind (wpAny_loadPart (k _ _ (X _ _ ho)) (wpAny_pure q))
  ·cases hcD
 ne := fun h tp dd its n sl X htp => by
  obtain ⟨cdD, hcD⟩ := isSome_iff_exists.mp hcl
  refine Bool.eq_false_iff.mpr fun q => ?_
  have e : C = tp := Value.ref.inj (beq_iff_eq.mp q)
  subst e
  unfold clsIn at hcD
  split at hcD
  ·rename_i c' d' cd' sl' ho
   have z := (X _ _ ho).symm.trans htp
   cases z
  ·cases hcD
 ca := fun X I k => let ⟨_, _, I⟩ := I; Fi X I hga hb hk (hf _) hm k
end
end L2
namespace L2
open PySem PySem.Spec PyProof.Rows PySem.W Builtin Builtin.ObjectAttr
def cD : List Value -> Bool
 | .ref _ :: r => cD r
 | l => l == [.type "ValueError", .type "Exception", .type "BaseException", .type "object"]
theorem pL (c : Addr) (r : List Value) : cD (.ref c :: r) = cD r := by rw [cD]
theorem ux : ∀ {l : List Value}, cD l = true -> (∃ c r, l = .ref c :: r) \/ l = [.type "ValueError", .type "Exception", .type "BaseException", .type "object"]
 | .ref c :: r, _ => .inl ⟨c, r, rfl⟩
 | [], e => by cases e
 | .type n :: r, e => .inr (eq_of_beq (by unfold cD at e; exact e))
 | .none :: r, e => .inr (eq_of_beq (by unfold cD at e; exact e))
 | .bool _ :: r, e => .inr (eq_of_beq (by unfold cD at e; exact e))
 | .int _ _ :: r, e => .inr (eq_of_beq (by unfold cD at e; exact e))
 | .str _ _ :: r, e => .inr (eq_of_beq (by unfold cD at e; exact e))
 | .builtin _ :: r, e => .inr (eq_of_beq (by unfold cD at e; exact e))
 | .float _ _ :: r, e => .inr (eq_of_beq (by unfold cD at e; exact e))
 | .bytes _ _ :: r, e => .inr (eq_of_beq (by unfold cD at e; exact e))
 | .ellipsis :: r, e => .inr (eq_of_beq (by unfold cD at e; exact e))
 | .notImplemented :: r, e => .inr (eq_of_beq (by unfold cD at e; exact e))
theorem pF (self : Value) : ∀ {l : List Value}, cD l = true -> refuseLoop self "__setattr__" l = pure ()
 | l, e => by
  rcases ux e with ⟨c, r, rfl⟩ | rfl
  ·rw [refuseLoop_ref]; exact pF self (l := r) (by rw [pL] at e; exact e)
  ·exact PySem.F.store_ValueError.passes self
termination_by l => l.length
theorem pK : ∀ {l : List Value}, cD l = true -> l.contains (.type "object") = true
 | l, e => by
  rcases ux e with ⟨c, r, rfl⟩ | rfl
  ·rw [contains_cons, pK (l := r) (by rw [pL] at e; exact e), Bool.or_true]
  ·decide
termination_by l => l.length
def zf (K : Frag) (C : Addr) : Bool := (clsIn K C).any fun cd => cD cd.mro
section
variable {prog : Program} {w : World} {A : Around} {s : Shared} {K : Frag} {x C : Addr} {R : Result -> Shared -> Prop}
theorem Ef {ox : Obj} {od : Option Obj} {name : Str} {tk : Tok} {v : Value} {r : Option Value} (X : K.In s.heap) (I : InstAt s.heap x ox C od) (hp : zf K C = true) (ht : takerIn K C name = some r)
  (h : ∀ b, wpAny (model prog w) A.in1 (match r with | some a => Builtin.ObjectAttr.setByDescriptor a (.ref x) v | none => Builtin.ObjectAttr.storeInOwnDict (.ref x) (.ref C) (.str name tk) name v b)
   (fun fin s' => match fin with | .done f => R (.ok f) s' | .again c' => c'.quiet = true /\ codeAny (model prog w) A c' R s') (fun e s' => R (.error e) s') s) :
  codeAny (model prog w) A (.call (.builtin "object.__setattr__") ⟨[.ref x, .str name tk, v], []⟩) R s := by
 have SF := PySem.F.store_object
 obtain ⟨cd, hc, ho⟩ := any_some hp
 have ne : cd.mro.isEmpty = false := by cases q : cd.mro with | nil => rw [q] at ho; cases ho | cons _ _ => rfl
 have sub : Looks (model prog w) s.heap (isInstance (.ref x) (.type "object")) true := I.type.andThen (looks_mroIn X (by unfold mroIn; rw [hc, bind_some, if_neg (by rw [ne]; decide), pK ho]))
 refine codeAny_call_builtin SF.slot.plain SF.entry (@check_slot (model prog w) _ _ s "object.__setattr__" "object" "__setattr__" (.ref x) [.str name tk, v] [] _ SF.kind SF.split sub (SF.args (.ref x) (.str name tk) v) ?_)
 obtain ⟨attr, ha, hr⟩ := Option.bind_eq_some_iff.mp ht
 have hm : Looks (model prog w) s.heap (mroOf (.ref C)) cd.mro := (looks_clsIn X hc).andThen .now
 have L3 : Looks (model prog w) s.heap (storeTaker? attr) r := by
  cases attr with
  | none => cases hr; exact .now
  | some a =>
   obtain ⟨b, hb, rfl⟩ := Option.map_eq_some_iff.mp hr
   refine (looks_takesIn X hb).andThen ?_
   cases b <;> exact .now
 rw [osa_eq, refuse_eq]
 refine wpAny_bind (wpAny_bind (I.type.here (wpAny_bind (hm.here ?_))))
 rw [pF _ ho]
 refine wpAny_pure (wpAny_bind (I.type.here (wpAny_bind ((looks_findIn X ha).here (wpAny_bind (L3.here ?_))))))
 exact h _
end
section
variable {prog : Program} {w : World} {A : Around} {E : EV} {s : Shared} {K : Frag} {x C : Addr} {name : Str} {v : Value} {vs : Array Value}
theorem Iu {Q : Unit -> Shared -> Prop} (X : K.In s.heap) (hx : s.heap.get? x = some (b8 C none vs))
  (hs : findIn K (.ref C) "__setattr__" = some (some (.builtin "object.__setattr__"))) (hp : zf K C = true) (ht : takerIn K C name = some none) (hh : hasDictIn K C = true)
  (h : ∀ h' t', (∀ b o, b ≠ x -> s.heap.get? b = some o -> h'.get? b = some o) -> h'.get? x = some (b8 C (some s.heap.objs.size) vs) -> h'.Ns1 s.heap.objs.size (fun y => if y = name then some v else none) ->
   Q () { s with heap := h', toks := t' }) :
  wpAny (model prog w) A (setAttr (.ref x) name v) Q E s := by
 have I : InstAt s.heap x (b8 C none vs) C none := ⟨hx, rfl, rfl, True.intro⟩
 refine set_plain X I hs (Ef (s := { s with toks := s.toks + 1 }) (r := none) X I hp ht fun b => ?_)
 obtain ⟨cd, hc, hd'⟩ := any_some hh
 refine wpAny_bind (wpAny_pure (wpAny_bind (wpAny_bind (wpAny_loadPart hx (wpAny_bind (Looks.here (s := { s with toks := s.toks + 1 }) (looks_clsIn X hc) ?_))))))
 rw [hd']
 have hx₁ : (s.heap.push { cls := .type "dict", data := .dict #[] }).get? x = some (b8 C none vs) := Heap.get?_push_of_some _ hx
 have hxs : x ≠ s.heap.objs.size := ne_of_lt (Heap.lt_size hx)
 refine wpAny_bind (wpAny_alloc' ?_)
 refine wpAny_bind (wpAny_update' hx₁ ?_)
 refine wpAny_pure ?_
 have hgd : ((s.heap.push { cls := .type "dict", data := .dict #[] }).update x fun o => { cls := o.cls, dict := some s.heap.objs.size, data := o.data, slots := o.slots }).get? s.heap.objs.size
   = some { cls := .type "dict", data := .dict #[] } :=
  (Heap.get?_update_ne _ _ _ _ hxs.symm).trans (Heap.get?_push_at rfl rfl)
 have hnd : ((s.heap.push { cls := .type "dict", data := .dict #[] }).update x fun o => { cls := o.cls, dict := some s.heap.objs.size, data := o.data, slots := o.slots }).Ns s.heap.objs.size (fun _ => none) :=
  ⟨_, #[], _, hgd, rfl, fun e he => absurd he Z2, fun _ => rfl⟩
 show wpAny _ _ (storeInDict s.heap.objs.size (.str name s.toks) name v) _ _ _
 unfold storeInDict newKeyGuard
 refine wpAny_bind (wpAny_pure (wpAny_bind (wpAny_nsSet1 (Heap.Ns1.of_empty hnd) fun h' hn' hs => ?_)))
 obtain ⟨oD, esD, epD, hoD, hdD, hcD⟩ := hn'.count (Within.cons name v Within.nil)
 refine wpAny_bind (wpAny_lookBehind hoD (by rw [hdD]; exact pastItsLine_dict (le_trans hcD (by rw [length_cons, length_nil, sizeLine_eq]; omega))) ?_)
 refine wpAny_pure (h _ _ (fun b ob hbx hb => ?_) ?_ hn')
 ·exact (hs.2 b (ne_of_lt (Heap.lt_size hb))).trans ((Heap.get?_update_ne _ _ _ _ hbx).trans (Heap.get?_push_of_some _ hb))
 ·exact (hs.2 x hxs).trans (Heap.get?_update_self _ hx₁ rfl)
end
end L2
namespace L2
open PySem PySem.Spec PyProof.Rows PySem.W
def Mg (fl : Bool) (dx : Option Addr) (a1 a2 : Value) : Prop := (fl = true -> a1 = .none) /\ (dx = none -> a2 = .none)
def ExO (fl : Bool) (x C : Addr) (dx : Option Addr) : HO := .ext fun h => ∃ t0 a1 a2 a3 a4 a5, h.get? x = some (b8 C dx #[.ref t0, a1, a2, a3, a4, a5]) /\ Mg fl dx a1 a2
def XdO (p : Addr) (fs : List (Str × V)) : HO := .ext fun h => ∃ mA, h.Ns1 p mA /\ (∀ f, kZ (fs.lookup f) (mA f)) /\ Within mA (fs.map (·.1))
section
variable {P : Program} {w : World} {H : Hp} {h : Heap} {fl : Bool} {x p C : Addr} {dx : Option Addr} {fs : List (Str × V)}
theorem uV {t0 : Addr} {a1 a2 a3 a4 a5 : Value} (e : h.get? x = some (b8 C dx #[.ref t0, a1, a2, a3, a4, a5])) (hfl : Mg fl dx a1 a2) : bY P w H h x (ExO fl x C dx) :=
 ⟨⟨_, _, _, _, _, _, e, hfl⟩, ⟨_, e⟩, fun h1 h2 ⟨t0, a1, a2, a3, a4, a5, q, z⟩ k => ⟨t0, a1, a2, a3, a4, a5, k _ q, z⟩⟩
theorem Nz {mA : MG} (n : h.Ns1 p mA) (r : ∀ f, kZ (fs.lookup f) (mA f)) (wi : Within mA (fs.map (·.1))) : bY P w H h p (XdO p fs) :=
 ⟨⟨mA, n, r, wi⟩, let ⟨o, _, _, e, _⟩ := n; ⟨o, e⟩, fun h1 h2 ⟨mA, ⟨o, es, ep, e, c⟩, r⟩ k => ⟨mA, ⟨o, es, ep, k _ e, c⟩, r⟩⟩
theorem jw (hok : HOk P w H h) (e : H x = some (ExO fl x C dx)) : ∃ t0 a1 a2 a3 a4 a5, h.get? x = some (b8 C dx #[.ref t0, a1, a2, a3, a4, a5]) /\ Mg fl dx a1 a2 := (show bY P w H h x (ExO fl x C dx) from hok x _ e).1
theorem Dw (hok : HOk P w H h) (e : H p = some (XdO p fs)) : ∃ mA, h.Ns1 p mA /\ (∀ f, kZ (fs.lookup f) (mA f)) /\ Within mA (fs.map (·.1)) := (show bY P w H h p (XdO p fs) from hok p _ e).1
end
structure qW (K : Frag) (C : Addr) : Prop where
 ga : findIn K (.ref C) "__getattribute__" = some (some (.builtin "BaseException.__getattribute__"))
 bx : mroIn K C (.type "BaseException") = some true
 nga : findIn K (.ref C) "__getattr__" = some none
 ob : mroIn K C (.type "object") = some true
 hd : hasDictIn K C = true
 ov : zf K C = true
 sa : findIn K (.ref C) "__setattr__" = some (some (.builtin "object.__setattr__"))
 cl : findIn K (.ref C) "__class__" = some (some (.builtin "object.__class__"))
 cg : specialIn K (.builtin "object.__class__") "__get__" = some (some (.builtin "getset_descriptor.__get__"))
 ct : takesIn K (.builtin "object.__class__") = some true
theorem qW.cls {K : Frag} {C : Addr} (c : qW K C) : (clsIn K C).isSome = true := by
 obtain ⟨cd, hc, _⟩ := any_some c.hd
 rw [hc]; rfl
theorem qW.fo {K : Frag} {C : Addr} (c : qW K C) (od : Option Obj) : findObj K C od "__class__" = some (.bind (.builtin "getset_descriptor.__get__") (.builtin "object.__class__")) := by
 obtain ⟨cd, hc, _⟩ := any_some c.hd
 unfold findObj
 rw [hc, bind_some, c.cl, bind_some]
 dsimp only
 rw [c.cg, bind_some]
 dsimp only
 rw [c.ct, bind_some]
section
variable {X : Cx} {pins : OP} {σ : St} {H : Hp} {s : Shared} {fl : Bool} {a C dx : Addr} {fs : List (Str × V)} {f : Str} {v : V} {A : Around} {E : EV}
theorem JL {b : Bool} {Q : EV} (I : Inv X pins σ H s) (e : H a = some (ExO fl a C (some dx))) (d : H dx = some (XdO dx fs)) (c : qW X.K C) (n : bW X.K C f) (l : fs.lookup f = some v)
  (h : ∀ u s', Inv X pins σ H s' -> RelV v u -> Q u s') : wpAny (model X.prog X.w) A (getAttr (.ref a) f b) Q E s := by
 obtain ⟨t0, a1, a2, a3, a4, a5, hx, hfl⟩ := jw I.hok e
 obtain ⟨mA, hn, r, _⟩ := Dw I.hok d
 obtain ⟨u, hu, ru⟩ := kZ.some_of (v := v) (o := mA f) (by rw [<- l]; exact r f)
 obtain ⟨od, ho, hl⟩ := rN hn
 have J : InstAt s.heap a (b8 C (some dx) #[.ref t0, a1, a2, a3, a4, a5]) C (some od) := ⟨hx, rfl, rfl, ho⟩
 exact J6 I.kIn J c.ga c.bx c.nga (findObj_own c.hd n rfl (by rw [hl, hu])) (wM ru) (h u _ (I.tok _) ru)
theorem GP {y : V} {u : Value} {Q : Unit -> Shared -> Prop} (I : Inv X pins σ H s) (e : H a = some (ExO fl a C none)) (c : qW X.K C) (n : bW X.K C f) (ry : RelV y u)
  (h : ∀ p s', H p = none -> p ≠ a -> Inv X pins σ (upd (upd H p (XdO p [(f, y)])) a (ExO fl a C (some p))) s' -> Q () s') : wpAny (model X.prog X.w) A (setAttr (.ref a) f u) Q E s := by
 obtain ⟨t0, a1, a2, a3, a4, a5, hx, hfl⟩ := jw I.hok e
 have hlt : a < s.heap.objs.size := Heap.lt_size hx
 have hne : s.heap.objs.size ≠ a := ne_of_gt hlt
 refine Iu I.kIn hx c.sa c.ov n.taker c.hd fun h' t' k hx' hn' => h s.heap.objs.size _ (I.hok.fresh (le_refl _)) hne ?_
 have g1 : (h'.update a fun _ => b8 C none #[.ref t0, a1, a2, a3, a4, a5]).get? a = some (b8 C none #[.ref t0, a1, a2, a3, a4, a5]) := Heap.get?_update_self _ hx' rfl
 have g2 : ∀ b, b ≠ a -> (h'.update a fun _ => b8 C none #[.ref t0, a1, a2, a3, a4, a5]).get? b = h'.get? b := fun b hb => Heap.get?_update_ne _ _ _ _ hb
 have I1 := I.laid (a := s.heap.objs.size) (o := XdO s.heap.objs.size [(f, y)]) (h' := h'.update a fun _ => b8 C none #[.ref t0, a1, a2, a3, a4, a5]) (t' := t') (fun b o q => by
   by_cases hb : b = a
   ·subst hb; rw [hx] at q; cases q; exact g1
   ·rw [g2 b hb]; exact k b o hb q) (le_refl _) (by
   obtain ⟨o, es, ep, q, r⟩ := hn'
   refine Nz ⟨o, es, ep, by rw [g2 _ hne]; exact q, r⟩ (fun g => ?_) (fun g hg => ?_)
   ·show kZ (List.lookup g [(f, y)]) (if g = f then some u else none)
    by_cases z : g = f
    ·have hb : (g == f) = true := beq_iff_eq.mpr z
     simp only [List.lookup, hb, if_pos z]; exact ry
    ·have hb : (g == f) = false := beq_eq_false_iff_ne.mpr z
     simp only [List.lookup, hb, if_neg z]; exact True.intro
   ·by_cases z : g = f
    ·rw [z]; simp
    ·exact absurd (if_neg z) hg)
 refine I1.write (x := a) (e := a) (o := ExO fl a C (some s.heap.objs.size)) (t' := t') (h' := h') (by rw [aK hne.symm, e]; exact True.intro) (.inl rfl) (fun b o hb q => by rw [<- g2 b hb]; exact q) ⟨_, hx'⟩ (uV hx' ⟨hfl.1, fun z => by cases z⟩)
theorem Ig {dx : Option Addr} {c : Value} {b : Bool} {Q : EV} (I : Inv X pins σ H s) (e : H a = some (ExO fl a C dx)) (cl : qW X.K C) (k : kitOne X.K (.ref C) c = some b) (dxd : ∀ p, dx = some p -> ∃ fs, H p = some (XdO p fs))
  (h : ∀ tk, Q (.bool b) { s with toks := tk }) : wpAny (model X.prog X.w) A (call (.builtin "isinstance") [.ref a, c]) Q E s := by
 obtain ⟨t0, a1, a2, a3, a4, a5, hx, hfl⟩ := jw I.hok e
 have J : ∃ ox od, PySem.W.InstAt s.heap a ox C od := by
  cases dx with
  | none => exact ⟨_, none, hx, rfl, rfl, True.intro⟩
  | some p =>
   obtain ⟨fs, d⟩ := dxd p rfl
   obtain ⟨mA, hn, _⟩ := Dw I.hok d
   obtain ⟨od, ho, _⟩ := rN hn
   exact ⟨_, some od, hx, rfl, rfl, ho⟩
 exact kia_one (Jg cl.cls cl.ga cl.bx cl.nga cl.ob cl.fo) I.kIn J k (fun z => nomatch z) h
end
def Ld (K : Frag) (ta : TE) (f : Str) : TE := fun σ H Q => ta σ H fun x H1 => ∃ fl a C dx fs v, x = .ref a /\ H1 a = some (ExO fl a C (some dx)) /\ H1 dx = some (XdO dx fs) /\ qW K C /\ bW K C f /\ fs.lookup f = some v /\ Q v H1
def Ii (K : Frag) (ta tv : TE) (f : Str) : TS := fun D σ H => tv σ H fun y H1 => ta σ H1 fun x H2 => ∃ fl a C, x = .ref a /\ H2 a = some (ExO fl a C none) /\ qW K C /\ bW K C f /\
 ∀ p, H2 p = none -> p ≠ a -> D.nx σ (upd (upd H2 p (XdO p [(f, y)])) a (ExO fl a C (some p)))
def PX : V -> Option Value
 | .ref a => some (.ref a)
 | .ty n => some (.type n)
 | _ => none
theorem Km {y : V} {c u : Value} (e : PX y = some c) (r : RelV y u) : u = c := by
 cases y <;> cases e <;> exact r
def HH (K : Frag) : List V -> Hp -> VK -> Prop := fun xs H Q => ∃ fl a C dx y c b, xs = [.ref a, y] /\ PX y = some c /\ H a = some (ExO fl a C dx) /\ (∀ p, dx = some p -> ∃ fs, H p = some (XdO p fs)) /\ qW K C /\ kitOne K (.ref C) c = some b /\ Q (.bl b) H
section
variable {X : Cx} {o e value : Expr} {f : Str} {pos pos' tpos : Pos} {ta tv : TE}
theorem J2 (he : PE X e ta) (hb : attributeBase e f X.env (eval e X.env) = eval e X.env) : PE X (.Attribute e f pos) (Ld X.K ta f) := by
 intro pins s σ H Q I h
 refine Df hb (thn (he pins s σ H _ I h) fun u s1 ⟨x, H1, I1, rx, fl, a, C, dx, fs, v, ex, ea, ed, c, n, l, q⟩ => ?_)
 subst ex
 obtain rfl : u = Value.ref a := rx
 exact JL I1 ea ed c n l fun u' s2 I2 ru => ⟨v, H1, I2, ru, q⟩
theorem Ib (ha : PE X o ta) (hv : PE X value tv) (hs : swapsWith value (some (.Attribute o f pos')) pos.line X.env = pure false) : PS X (.Assign [.Attribute o f pos'] value pos) (Ii X.K ta tv f) := by
 intro pins s σ H D I h
 refine plainObj_wpAny_Assign_Attribute (thn (hv pins s σ H _ I h) fun u s1 ⟨y, H1, I1, ry, q⟩ => thn (ha pins s1 σ H1 _ I1 q) fun ov s2 ⟨x, H2, I2, rx, fl, a, C, ex, ea, c, n, q2⟩ => ?_) hs
 subst ex
 obtain rfl : ov = Value.ref a := rx
 exact GP I2 ea c n ry fun p s3 h1 h2 I3 => ⟨σ, _, I3, q2 p h1 h2⟩
theorem Bu : jg X (.builtin "isinstance") (HH X.K) := by
 intro pins s σ H xs us Q I r h
 obtain ⟨fl, a, C, dx, y, c, b, rfl, ry, ea, ed, cl, k, q⟩ := h
 obtain ⟨u, u2, rfl, rx, ry2⟩ := vals2 r
 obtain rfl : u = Value.ref a := rx
 obtain rfl := Km ry ry2
 exact Ig I ea cl k ed fun tk => ⟨.bl b, H, I.tok tk, rfl, q⟩
end
abbrev TJ := Str -> St -> Hp -> VK -> Prop
def PJ (X : Cx) (es : List Expr) (t : TJ) : Prop :=
 ∀ (pins : OP) (s : Shared) (σ : St) (H : Hp) (out : Str) (Q : VK), Inv X pins σ H s -> t out σ H Q -> wpAny (model X.prog X.w) X.A (joinParts out (evalEach es X.env)) (EP X pins σ Q) X.xe s
def Rh : TJ := fun out _ H Q => out.length <= sizeLine /\ Q (.str out) H
def Qe (te : TE) (tr : TJ) : TJ := fun out σ H Q => te σ H fun x H1 => ∃ y : Str, x = .str y /\ (out ++ y).length <= sizeLine /\ tr (out ++ y) σ H1 Q
def QZ (te : TE) : TE := fun σ H Q => te σ H fun x H1 => (∃ i : Int, x = .int i /\ i.natAbs.log2 < 1920 /\ Q (.str (toString i)) H1) \/ ∃ y : Str, x = .str y /\ y.length <= sizeLine /\ Q (.str y) H1
section
variable {X : Cx} {e v1 v2 : Expr} {es : List Expr} {te : TE} {tr : TJ} {pos : Pos}
theorem uK : PJ X [] Rh := fun pins s σ H out Q I ⟨h1, h2⟩ => joinParts_nil ⟨.str out, H, I.tok _, ⟨_, rfl⟩, h2⟩ h1
theorem gW (he : PE X e te) (hr : PJ X es tr) (hs : evalEach (e :: es) X.env = eval e X.env :: evalEach es X.env := by rfl) : PJ X (e :: es) (Qe te tr) := by
 intro pins s σ H out Q I h
 rw [hs]
 refine joinParts_cons (thn (he pins s σ H _ I h) fun u s1 ⟨x, H1, I1, rx, y, ex, hl, q⟩ => ?_)
 subst ex
 obtain ⟨t, rfl⟩ := (show ∃ t, u = Value.str y t from rx)
 exact ⟨hl, hr pins s1 σ H1 _ Q I1 q⟩
theorem lQ (h : PJ X (v1 :: v2 :: es) tr) : PE X (.JoinedStr (v1 :: v2 :: es) pos) (tr Str.empty) := fun pins s σ H Q I q => JoinedStr_many (h pins s σ H _ Q I q)
theorem vz (he : PE X e te) : PE X (.FormattedValue e (-1) none pos) (QZ te) := by
 intro pins s σ H Q I h
 refine FormattedValue_plain (thn (he pins s σ H _ I h) fun u s1 ⟨x, H1, I1, rx, q⟩ => ?_)
 rcases q with ⟨i, ex, hl, q⟩ | ⟨y, ex, hl, q⟩
 ·subst ex
  obtain ⟨t, rfl⟩ := (show ∃ t, u = Value.int i t from rx)
  exact formatField_int_small hl ⟨.str (toString i), H1, I1.tok _, ⟨_, rfl⟩, q⟩
 ·subst ex
  obtain ⟨t, rfl⟩ := (show ∃ t, u = Value.str y t from rx)
  exact formatField_str (fun t' tk => ⟨.str y, H1, I1.tok _, ⟨_, rfl⟩, q⟩) hl
end
abbrev jW : List Value := [.type "ValueError", .type "Exception", .type "BaseException", .type "object"]
def ExC (K : Frag) (C : Addr) : Prop := ∃ nm q N bs bm hdct sn sub ab col dd k0 k1 k2 k3 k5, K.lookup C = some (excClassObj nm q C N bs bm hdct sn sub ab col dd k0 k1 k2 k3 k5 "ValueError.__new__") /\ ∀ h, K.In h -> OwnTail h jW bm
theorem HX {H : Hp} {a : Addr} {o : HO} (e : H a = some o) : upd H a o = H := by
 funext b
 by_cases hb : b = a
 ·subst hb; rw [ak, e]
 ·rw [aK hb]
section
variable {X : Cx} {pins : OP} {σ : St} {H : Hp} {s : Shared} {fl : Bool} {a C B : Addr} {dx : Option Addr} {A : Around} {E : EV}
theorem Gx {u : Value} {Q : EV} (I : Inv X pins σ H s) (e : H a = some (ExO fl a C dx)) (c : ExC X.K C) (h : ∀ s', Inv X pins σ H s' -> Q .none s') :
  wpAny (model X.prog X.w) A (call (.builtin "ValueError.__init__") [.ref a, u]) Q E s := by
 obtain ⟨nm, q, N, bs, bm, hdct, sn, sub, ab, col, dd, k0, k1, k2, k3, k5, hc, T⟩ := c
 obtain ⟨t0, a1, a2, a3, a4, a5, hx, hfl⟩ := jw I.hok e
 obtain ⟨hh, g, d, t, os⟩ := s
 refine HN PySem.F.excBase_ValueError (T _ I.kIn) (I.kIn _ _ hc) hx fun h' k hx' => h _ ?_
 have z := I.write (x := a) (e := a) (o := ExO fl a C dx) (t' := t) (h' := h') (by rw [e]; exact True.intro) (.inl rfl) (fun b o hb q => k b o hb q) ⟨_, hx'⟩ (uV hx' hfl)
 rwa [HX e] at z
def Nu (K : Frag) (t : TA) : TE := fun σ H Q => t σ H fun vs H1 => ∃ fl a C dx y, vs = [.ref a, y] /\ H1 a = some (ExO fl a C dx) /\ ExC K C /\ Q .non H1
theorem ou {x : Str} {e1 : Expr} {es : List Expr} {t : TA} {p apos pos : Pos} {pl : Sem Bool} (hg : Gl X x) (hm : X.mg x = some (.ref B)) (hs : specialIn X.K (.ref B) "__getattribute__" = some (some (.builtin "type.__getattribute__")))
  (hr : readsIn X.K B (.type "type") = true) (hf : findCls X.K (.ref B) (.type "type") "__init__" = some (.val (.builtin "ValueError.__init__"))) (ha : PA X (e1 :: es) t)
  (hdb : (x == ("__debug__" : Str)) = false := by decide) (he : starEach (e1 :: es) X.env = (false, eval e1 X.env) :: starEach es X.env := by rfl) (hpl : (backTo pos (starEach es X.env)).any (·.1) = false := by rfl)
  (ht : eval (.Call (.Attribute (.Name x p) "__init__" apos) (e1 :: es) [] pos) X.env = (do
   let ov <- eval (.Name x p) X.env
   standAt apos.atName
   let (f, first) <- holding [ov] (getMethod ov "__init__" pl)
   callWith pos f first (backTo pos (starEach (e1 :: es) X.env)) (backToKw pos (keywordEach [] X.env))) := by rfl) :
  PE X (.Call (.Attribute (.Name x p) "__init__" apos) (e1 :: es) [] pos) (Nu X.K t) := by
 intro pins s σ H Q I h
 refine methodCall_KW (pl := pl) (iK I hg hm ?_ hdb) ht
 refine method_cls I.kIn hs (cls_value I.kIn hr hf rfl ?_)
 have I0 : Inv X pins σ H { s with toks := s.toks + 1 } := I.tok _
 refine PyProof.Rows.callWith_builtin1 (thn (ha pos pins _ σ H _ I0 h) fun us s1 ⟨vs, H1, I1, r1, fl, a, C, dx, y, ev, ea, c, q1⟩ => ?_) he hpl
 subst ev
 obtain ⟨u, u2, rfl, rx, _⟩ := vals2 r1
 obtain rfl : u = Value.ref a := rx
 exact Gx I1 ea c fun s' I' => ⟨.non, H1, I', rfl, q1⟩
end
def Gw (C : Addr) (sp : Sp) (dvs : List V) (E : XK) (t : TA) : TE := fun σ H Q => t σ H fun vs H1 => ∀ x, H1 x = none ->
 sp (.ref x :: (vs ++ dvs)) (upd H1 x (ExO true x C none)) (fun v H2 => v = .non /\ Q (.ref x) H2) E
section
variable {X : Cx} {CX : CXT} {k : Nat} {f C : Addr} {fd : FuncData} {ps : List Str} {sp : Sp} {dvs : List V} {ds : List Value} {E : XK} {x : Str} {p pos : Pos} {e : Expr} {es : List Expr} {t : TA}
theorem Inv.madeX {pins : OP} {σ : St} {H : Hp} {s : Shared} {us : List Value} (I : Inv X pins σ H s) : Inv X pins σ (upd H (s.heap.objs.size + 1) (ExO true (s.heap.objs.size + 1) C none))
  { s with heap := (s.heap.push { cls := .type "tuple", data := .seq us.toArray }).push (b8 C none #[.ref s.heap.objs.size, .none, .none, .none, .bool false, .none]) } := by
 have hget : ((s.heap.push { cls := .type "tuple", data := .seq us.toArray }).push (b8 C none #[.ref s.heap.objs.size, .none, .none, .none, .bool false, .none])).get? (s.heap.objs.size + 1) = some (b8 C none #[.ref s.heap.objs.size, .none, .none, .none, .bool false, .none]) := by heap_get
 exact I.laid (a := s.heap.objs.size + 1) (t' := s.toks) (fun b u q => Heap.get?_push_of_some _ (Heap.get?_push_of_some _ q)) (le_succ _) (uV hget ⟨fun _ => rfl, fun _ => rfl⟩)
theorem Fo {pins : OP} {σ : St} {H : Hp} {s : Shared} {Q : VK} {us : List Value} {vs : List V} (c : ExC X.K C) (hi : findIn X.K (.ref C) "__init__" = some (some (.ref f))) (hf : isFn X.K (.ref f) = true)
  (F : aL X.prog X.w X.K X.mg X.base CX k f fd ps sp) (hr : aY (k + 1) X.A) (hb : Binds X.K fd ps ds) (hd : Vals dvs ds) (hx : kJ CX X E) (I : Inv X pins σ H s) (r : Vals vs us) (hps : ps.length <= 1000)
  (h : ∀ x, H x = none -> sp (.ref x :: (vs ++ dvs)) (upd H x (ExO true x C none)) (fun v H2 => v = .non /\ Q (.ref x) H2) E) :
  wpAny (model X.prog X.w) X.A (call (.ref C) us) (EP X pins σ Q) X.xe s := by
 have hq := h (s.heap.objs.size + 1) (I.hok.fresh (le_succ _))
 have I2 := Inv.madeX (C := C) (us := us) I
 have r2 : Vals (V.ref (s.heap.objs.size + 1) :: (vs ++ dvs)) (Value.ref (s.heap.objs.size + 1) :: (us ++ ds)) := .cons rfl (r.append hd)
 have hl : (Value.ref (s.heap.objs.size + 1) :: us ++ ds).length = ps.length := by
  have e := r2.length
  rw [F.len _ _ _ _ hq] at e
  exact e.symm
 have hus : us.length <= sizeLine := by
  have : us.length <= ps.length := by rw [<- hl, length_append, length_cons]; omega
  exact le_trans this (le_trans hps Z0)
 obtain ⟨nm, q, N, bs, bm, hdct, sn, sub, ab, col, dd, k0, k1, k2, k3, k5, hc, T⟩ := c
 refine wpAny_call (HQ PySem.F.excBase_ValueError (T _ I.kIn) (I.kIn _ _ hc) (looks_findIn I.kIn hi) (fun self => bind_fn I.kIn self (beq_iff_eq.mp hf)) hus
  (codeAny_mono (F.run _ X.stack _ _ ⟨Value.ref (s.heap.objs.size + 1) :: us, []⟩ (Value.ref (s.heap.objs.size + 1) :: (us ++ ds)) _ _ E (hr.make C us [])
  (I2.env0.make C us []) (hb _ (Value.ref (s.heap.objs.size + 1) :: us) I2.kIn hl) r2 hq) fun r s' hq' => ?_))
 cases r with
 | error e => exact hx pins σ _ _ e s' I2 hq'
 | ok fl =>
  cases fl with
  | ret u =>
   obtain ⟨v, H', I3, rv, ev, q3⟩ := I2.after hq'
   subst ev
   exact ⟨rv, ⟨V.ref (s.heap.objs.size + 1), H', I3, rfl, q3⟩⟩
  | next => exact False.elim hq'
  | brk => exact False.elim hq'
  | cont => exact False.elim hq'
theorem Ir (c : ExC X.K C) (hi : findIn X.K (.ref C) "__init__" = some (some (.ref f))) (hf : isFn X.K (.ref f) = true) (hkp : keepIn X.K (.ref C) = true)
  (F : aL X.prog X.w X.K X.mg X.base CX k f fd ps sp) (hr : aY (k + 1) X.A) (hg : Gl X x) (hm : X.mg x = some (.ref C)) (hb : Binds X.K fd ps ds) (hd : Vals dvs ds) (hx : kJ CX X E) (hps : ps.length <= 1000)
  (ha : PA X (e :: es) t) (hdb : (x == ("__debug__" : Str)) = false := by decide) (he : starEach (e :: es) X.env = (false, eval e X.env) :: starEach es X.env := by rfl) (hpl : (backTo pos (starEach es X.env)).any (·.1) = false := by rfl) :
  PE X (.Call (.Name x p) (e :: es) [] pos) (Gw C sp dvs E t) := by
 intro pins s σ H Q I h
 refine wpAny_Call_Name_kw (iK I hg hm ?_ hdb)
 refine callWith_K (h₀ := X.base) I.ok.mod.kin hkp (thn (ha pos pins s σ H _ I h) fun us s1 ⟨vs, H1, I1, r, q⟩ => ⟨I1.kIn, ?_⟩) he hpl
 exact Fo c hi hf F hr hb hd hx I1 r hps q
end
def qC (es : Array DictEntry) : Bool := es.toList.all fun e => match e.key with | .str _ _ => true | _ => false
theorem Cp {es : Array DictEntry} (e : qC es = true) : StrKeys es := by
 intro d hd
 have := all_eq_true.mp e d (Array.mem_toList_iff.mpr hd)
 split at this
 ·rename_i x t q; exact ⟨x, t, q⟩
 ·cases this
theorem PB {K : Frag} {N : Addr} {oN : Value} {dN : Option Addr} {es : Array DictEntry} {nn : Nat} {sl : Array (Option Value)} {h : Heap} (X : K.In h) (l : K.lookup N = some ⟨oN, dN, .dict es nn, sl⟩) (e : qC es = true) : h.Ns N (nsFind es) :=
 ⟨_, es, nn, X _ _ l, rfl, Cp e, fun _ => rfl⟩
section
variable {K : Frag} {C D N HE M : Addr} {nm q nm' q' : Str} {bs bs' bm bm' : List Value} {sn sn' : List Str} {sub sub' : List Value} {ab ab' hdct hdct' : Bool} {col col' : Option Bool} {dd dd' : Option Addr} {k0 k1 k2 k3 k5 j0 j1 j2 j3 j5 : Option Value} {oN : Value} {dN : Option Addr} {es : Array DictEntry} {nn : Nat} {sl : Array (Option Value)} {i i' : String}
theorem Nh (l : K.lookup HE = some (excClassObj nm q HE N bs jW hdct sn sub ab col dd k0 k1 k2 k3 k5 "ValueError.__new__")) : ExC K HE :=
 ⟨_, _, _, _, _, _, _, _, _, _, _, _, _, _, _, _, l, fun h X => .base⟩
theorem Kp (l : K.lookup HE = some (excClassObj nm q HE N bs jW hdct sn sub ab col dd k0 k1 k2 k3 k5 i)) (n : K.lookup N = some ⟨oN, dN, .dict es nn, sl⟩) (e : qC es = true) (hi : nsFind es "__init__" = none)
  (l' : K.lookup C = some (excClassObj nm' q' C M bs' (.ref HE :: jW) hdct' sn' sub' ab' col' dd' j0 j1 j2 j3 j5 "ValueError.__new__")) : ExC K C :=
 ⟨_, _, _, _, _, _, _, _, _, _, _, _, _, _, _, _, l', fun h X => .own (X _ _ l) (PB X n e) hi .base⟩
theorem ul (l : K.lookup C = some (excClassObj nm q C N bs bm hdct sn sub ab col dd k0 k1 k2 k3 k5 i)) : ∃ cd, clsIn K C = some cd /\ cd.mro = .ref C :: bm /\ cd.hasDict = hdct := ⟨_, by unfold clsIn; rw [l], rfl, rfl⟩
theorem BR {b : Value} (l : K.lookup C = some (excClassObj nm q C N bs bm hdct sn sub ab col dd k0 k1 k2 k3 k5 i)) : mroIn K C b = some ((Value.ref C :: bm).contains b) := by
 obtain ⟨cd, h1, h2, _⟩ := ul l
 unfold mroIn
 rw [h1, bind_some, h2, if_neg Z2]
theorem Kr (l : K.lookup C = some (excClassObj nm q C N bs bm hdct sn sub ab col dd k0 k1 k2 k3 k5 i)) (l' : K.lookup D = some (excClassObj nm' q' D M bs' bm' hdct' sn' sub' ab' col' dd' j0 j1 j2 j3 j5 i')) :
  kitOne K (.ref C) (.ref D) = some ((Value.ref C :: bm).contains (.ref D)) := by
 unfold kitOne
 by_cases e : (Value.ref C == Value.ref D) = true
 ·rw [if_pos e, eq_of_beq e]; simp
 ·rw [if_neg e]
  obtain ⟨cd, h1, _⟩ := ul l'
  have h2 : typeIn K (.ref D) = some (.type "type") := by show (K.lookup D).map (·.cls) = _; rw [l']; rfl
  show (if ((clsIn K D).isSome && typeIn K (.ref D) == some (.type "type")) = true then mroIn K C (.ref D) else none) = _
  rw [h1, h2, if_pos Z2, BR l]
theorem Jr (l : K.lookup C = some (excClassObj nm q C N bs bm true sn sub ab col dd k0 k1 k2 k3 k5 i)) (hb : cD bm = true) (hbe : bm.contains (.type "BaseException") = true)
  (ga : findIn K (.ref C) "__getattribute__" = some (some (.builtin "BaseException.__getattribute__"))) (nga : findIn K (.ref C) "__getattr__" = some none)
  (sa : findIn K (.ref C) "__setattr__" = some (some (.builtin "object.__setattr__"))) (cl : findIn K (.ref C) "__class__" = some (some (.builtin "object.__class__")))
  (cg : specialIn K (.builtin "object.__class__") "__get__" = some (some (.builtin "getset_descriptor.__get__"))) (ct : takesIn K (.builtin "object.__class__") = some true) : qW K C := by
 obtain ⟨cd, h1, h2, h3⟩ := ul l
 refine ⟨ga, ?_, nga, ?_, ?_, ?_, sa, cl, cg, ct⟩
 ·rw [BR l, contains_cons, hbe, Bool.or_true]
 ·rw [BR l, contains_cons, pK hb, Bool.or_true]
 ·unfold hasDictIn; rw [h1]; exact h3
 ·unfold zf; rw [h1]; show cD cd.mro = true; rw [h2, pL]; exact hb
end
structure XIn (K : Frag) (C : Addr) (qual : Str) (st : Stmt) (ps : List Str) (f : Addr) (fd : FuncData) : Prop where
 F : Fun K "__init__" qual st f fd
 b : Binds K fd ps []
 i : findIn K (.ref C) "__init__" = some (some (.ref f))
 fn : isFn K (.ref f) = true
 kp : keepIn K (.ref C) = true
 sm : ps.length <= 1000
theorem Ez {i : Int} (h : i.natAbs.log2 < 1920) : (Str.ofString (toString i)).length <= 5000 := by
 have e := int_text_length_le (k := 1920) Z0 h
 rw [PySem.ofString_length]; omega
section
variable {X : Cx} {k : Nat} {f C : Addr} {fd : FuncData} {ps : List Str} {sp : Sp} {x qual : Str} {st : Stmt} {p pos pos' : Pos} {e o value : Expr} {es : List Expr} {t : TA} {ta tv : TE} {g : Str}
theorem wy (A : XIn X.K C qual st ps f fd) (G : aL X.prog X.w X.K X.mg X.base CX0 k f fd ps sp) (hr : aY (k + 1) X.A) (hm : X.mg x = some (.ref C)) (c : ExC X.K C) (ha : PA X (e :: es) t) (hg : Gl X x := by rfl)
  (hdb : (x == ("__debug__" : Str)) = false := by decide) (he : starEach (e :: es) X.env = (false, eval e X.env) :: starEach es X.env := by rfl) (hpl : (backTo pos (starEach es X.env)).any (·.1) = false := by rfl) :
  PE X (.Call (.Name x p) (e :: es) [] pos) (Gw C sp [] E0 t) := Ir c A.i A.fn A.kp G hr hg hm A.b .nil jl A.sm ha hdb he hpl
theorem oW {y : Addr} (h : X.mg x = some (.ref y)) (hg : Gl X x := by rfl) (hd : (x == ("__debug__" : Str)) = false := by decide) : PE X (.Name x pos) (tC (.ref y)) := yr hg h rfl hd
theorem oG (ha : PE X o ta) (hv : PE X value tv) (hs : swapsWith value (some (.Attribute o g pos')) pos.line X.env = pure false := by rfl) : QS X (.Assign [.Attribute o g pos'] value pos) (Ii X.K ta tv g) := ⟨Ib ha hv hs⟩
end
def uQ (K : Frag) (C : Addr) (bm : List Value) : Prop := ∃ nm q N bs sn sub ab col dd k0 k1 k2 k3 k5, K.lookup C = some (excClassObj nm q C N bs bm true sn sub ab col dd k0 k1 k2 k3 k5 "ValueError.__new__")
theorem Mf (a : Addr) : jW.contains (.ref a) = false := rfl
structure xg (fr : List Addr) (e : Addr) (old : Option Addr) (h h' : Heap) : Prop where
 keep : ∀ b o, h.get? b = some o -> b ≠ e -> some b ≠ old -> b ∉ fr -> h'.get? b = some o
 slot : ∀ b o, h.get? b = some o -> b ≠ e -> some b ≠ old -> ∃ sl, h'.get? b = some { o with slots := sl }
 there : ∀ b o, h.get? b = some o -> ∃ o', h'.get? b = some o'
 size : h.objs.size <= h'.objs.size
def zL (h : Heap) (T : Addr) : Prop := ∃ oT ts, h.get? T = some oT /\ oT.data = .fields ts /\ ts[3]? = some .none
theorem G8 {o : Obj} {vs : Array Value} (hd : o.data = .fields vs) (f : Array Value -> Array Value) : Obj.mapFields f o = { o with data := .fields (f vs) } := by
 obtain ⟨c, d, dt, sl⟩ := o
 cases (show dt = .fields vs from hd)
 rfl
theorem uc {o : Obj} {vs : Array Value} (hd : o.data = .fields vs) : o.isFreed = false := Obj.isFreed_of_fields hd
section
variable {M : Model} {A : Around} {E : EV} {s : Shared} {base : Heap} {env : Env} {outer : List Env} {L e : Addr} {oe : Obj} {vs : Array Value} {Q : Unit -> Shared -> Prop}
theorem DW {head : Value} {nx : Bool} (hfr : A.frames = some (env :: outer)) (hl : s.heap.FunFrames base (env :: outer)) (hf : env.frame = some L) (he : s.heap.get? e = some oe) (hd : oe.data = .fields vs) (hsz : 1 < vs.size)
  (h : ∀ h' T, xg (frs (env :: outer)) e none s.heap h' -> h'.get? e = some { oe with data := .fields (vs.setIfInBounds 1 (.ref T)) } -> s.heap.objs.size <= T -> zL h' T -> Q () { s with heap := h' }) :
  wpAny M A (do
   let a <- frameOf env
   let pl <- entryPlaceOf L nx
   let b <- EntryCells.newEntry head a .none (rawInt L) .none pl
   setField (.ref e) 1 b) (fun _ s' => wpAny M A (setFlight (.ref e) none) Q E s') E s := by
 have en : e ∉ frs (env :: outer) := fun hm => by
  obtain ⟨_, o, ho, hn⟩ := hl.mem hm
  rw [he] at ho; cases ho; exact hn vs hd
 have elt : e < s.heap.objs.size := Heap.lt_size he
 refine wpAny_bind (wpAny_frameOf_fun hfr hl hf fun g1 G1 => ?_)
 refine wpAny_bind (wpAny_entryPlaceOf fun pl hpl => ?_)
 unfold EntryCells.newEntry newFields
 refine wpAny_bind (wpAny_newObj_type ?_ (hpl.sizeOk5 _ _ _ _ _))
 have e1 : g1.get? e = some oe := (G1.2.1 e en).trans he
 have z1 : g1.objs.size = s.heap.objs.size := G1.1
 have hts : (([head, .ref L, .none, rawInt L, .none] ++ (if pl.isEmpty then List.replicate 6 Value.none else pl)).toArray : Array Value).size > 3 := by
  simp only [size_toArray, length_append, length_cons, length_nil]
  omega
 generalize (([head, .ref L, .none, rawInt L, .none] ++ (if pl.isEmpty then List.replicate 6 Value.none else pl)).toArray : Array Value) = tv at hts
 have t2 := Heap.get?_push_size g1 (o := { cls := .type "traceback", dict := none, data := .fields tv }) rfl
 have k2 : ∀ b o, g1.get? b = some o -> (g1.push { cls := .type "traceback", dict := none, data := .fields tv }).get? b = some o := fun b o q => Heap.get?_push_of_some _ q
 have z2 : (g1.push { cls := .type "traceback", dict := none, data := .fields tv }).objs.size = g1.objs.size + 1 := Heap.size_push _ _
 generalize g1.push { cls := .type "traceback", dict := none, data := .fields tv } = g2 at t2 k2 z2
 have Tne : g1.objs.size ≠ e := ne_of_gt (by rw [z1]; exact elt)
 refine wpAny_setField (k2 _ _ e1) hd hsz ?_
 have e3 := Heap.get?_update_self (h := g2) (Obj.mapFields (·.setIfInBounds 1 (Value.ref g1.objs.size))) (k2 _ _ e1) (by rw [G8 hd]; exact uc rfl)
 rw [G8 hd] at e3
 have o3 : ∀ b, b ≠ e -> (g2.update e (Obj.mapFields (·.setIfInBounds 1 (Value.ref g1.objs.size)))).get? b = g2.get? b := fun b hb => Heap.get?_update_other _ _ (Ne.symm hb)
 have z3 : (g2.update e (Obj.mapFields (·.setIfInBounds 1 (Value.ref g1.objs.size)))).objs.size = g2.objs.size := by cases g2; simp [Heap.update]
 generalize g2.update e (Obj.mapFields (·.setIfInBounds 1 (Value.ref g1.objs.size))) = g3 at e3 o3 z3
 unfold setFlight
 refine wpAny_bind (wpAny_field e3 rfl (x := .ref g1.objs.size) (by simp [hsz]) ?_)
 rw [if_pos (show (Value.ref g1.objs.size != Value.none) = true from by simp)]
 have t3 := (o3 _ Tne).trans t2
 refine wpAny_setField t3 rfl hts ?_
 have t4 := Heap.get?_update_self (h := g3) (Obj.mapFields (·.setIfInBounds 3 ((none : Option Addr).elim Value.none fun f => rawInt f))) t3 (uc rfl)
 have o4 : ∀ b, b ≠ g1.objs.size -> (g3.update g1.objs.size (Obj.mapFields (·.setIfInBounds 3 ((none : Option Addr).elim Value.none fun f => rawInt f)))).get? b = g3.get? b := fun b hb => Heap.get?_update_other _ _ (Ne.symm hb)
 have z4 : (g3.update g1.objs.size (Obj.mapFields (·.setIfInBounds 3 ((none : Option Addr).elim Value.none fun f => rawInt f)))).objs.size = g3.objs.size := by cases g3; simp [Heap.update]
 generalize g3.update g1.objs.size (Obj.mapFields (·.setIfInBounds 3 ((none : Option Addr).elim Value.none fun f => rawInt f))) = g4 at t4 o4 z4
 have all : ∀ b o, b ≠ e -> g1.get? b = some o -> g4.get? b = some o := fun b o hb q => by
  rw [o4 b (ne_of_lt (Heap.lt_size q)), o3 b hb]; exact k2 b o q
 have e4 : g4.get? e = some { oe with data := .fields (vs.setIfInBounds 1 (.ref g1.objs.size)) } := (o4 e (Ne.symm Tne)).trans e3
 refine h g4 g1.objs.size ⟨fun b o q hb _ hn => all b o hb ((G1.2.1 b hn).trans q), fun b o q hb _ => ?_, fun b o q => ?_, Z1⟩ e4 Z1 ⟨_, _, t4, rfl, by simp [hts]⟩
 ·obtain ⟨sl, q1⟩ := G1.2.2 b o q
  exact ⟨sl, all b _ hb q1⟩
 ·by_cases hb : b = e
  ·subst hb; exact ⟨_, e4⟩
  ·obtain ⟨sl, q1⟩ := G1.2.2 b o q
   exact ⟨_, all b _ hb q1⟩
theorem Cq (hfr : A.frames = some (env :: outer)) (hl : s.heap.FunFrames base (env :: outer)) (hf : env.frame = some L) (he : s.heap.get? e = some oe) (hd : oe.data = .fields vs) (h1 : vs[1]? = some .none)
  (h : ∀ h' T, xg (frs (env :: outer)) e none s.heap h' -> h'.get? e = some { oe with data := .fields (vs.setIfInBounds 1 (.ref T)) } -> s.heap.objs.size <= T -> zL h' T -> Q () { s with heap := h' }) :
  wpAny M A (noteFrame (.ref e) env) (fun _ s' => wpAny M A (setFlight (.ref e) none) Q E s') E s := by
 unfold noteFrame
 simp only [hf]
 refine wpAny_bind (wpAny_field he hd h1 ?_)
 rw [if_neg Z0]
 exact DW hfr hl hf he hd (Array.getElem?_eq_some_iff.mp h1).1 h
theorem Fw {T0 : Addr} (hfr : A.frames = some (env :: outer)) (hl : s.heap.FunFrames base (env :: outer)) (hf : env.frame = some L) (he : s.heap.get? e = some oe) (hd : oe.data = .fields vs) (h1 : vs[1]? = some (.ref T0)) (hT : zL s.heap T0) (hne : T0 ≠ e)
  (h : ∀ h' T, xg (frs (env :: outer)) e (some T0) s.heap h' -> h'.get? e = some { oe with data := .fields (vs.setIfInBounds 1 (.ref T)) } -> s.heap.objs.size <= T -> zL h' T -> Q () { s with heap := h' }) :
  wpAny M A (noteFrame (.ref e) env) (fun _ s' => wpAny M A (setFlight (.ref e) none) Q E s') E s := by
 obtain ⟨oT, ts, hT, hdT, h3⟩ := hT
 unfold noteFrame
 simp only [hf]
 refine wpAny_bind (wpAny_field he hd h1 ?_)
 rw [if_pos (show (Value.ref T0 != Value.none) = true from by simp)]
 refine wpAny_bind (wpAny_field hT hdT h3 ?_)
 rw [if_neg (show ¬ ((Value.none == rawInt L) = true) from by simp [rawInt])]
 refine wpAny_bind (wpAny_setField hT hdT (Array.getElem?_eq_some_iff.mp h3).1 ?_)
 have Tf : T0 ∉ frs (env :: outer) := fun hm => by
  obtain ⟨_, o, ho, hn⟩ := hl.mem hm
  rw [hT] at ho; cases ho; exact hn ts hdT
 have t1 := Heap.get?_update_self (h := s.heap) (Obj.mapFields (·.setIfInBounds 3 Value.none)) hT (by rw [G8 hdT]; exact uc rfl)
 have o1 : ∀ b, b ≠ T0 -> (s.heap.update T0 (Obj.mapFields (·.setIfInBounds 3 Value.none))).get? b = s.heap.get? b := fun b hb => Heap.get?_update_other _ _ (Ne.symm hb)
 have z1 : (s.heap.update T0 (Obj.mapFields (·.setIfInBounds 3 Value.none))).objs.size = s.heap.objs.size := by cases s.heap; simp [Heap.update]
 generalize s.heap.update T0 (Obj.mapFields (·.setIfInBounds 3 Value.none)) = g at t1 o1 z1
 refine DW (s := { s with heap := g }) hfr (hl.of_keeps fun b o q hn => ⟨o, (o1 b fun z => ?_).trans q, rfl⟩) hf ((o1 e (Ne.symm hne)).trans he) hd (Array.getElem?_eq_some_iff.mp h1).1 fun h' T N x hz tb => h h' T ⟨fun b o q hb hT0 hn => ?_, fun b o q hb hT0 => ?_, fun b o q => ?_, le_trans (le_of_eq z1.symm) N.size⟩ x (le_trans (le_of_eq z1.symm) hz) tb
 ·subst z; rw [hT] at q; cases q; exact hn ts hdT
 ·exact N.keep b o ((o1 b fun z => hT0 (by rw [z])).trans q) hb Z2 hn
 ·exact N.slot b o ((o1 b fun z => hT0 (by rw [z])).trans q) hb Z2
 ·by_cases z : b = T0
  ·subst z; exact N.there _ _ t1
  ·exact N.there _ _ ((o1 b z).trans q)
end
theorem HW {P : Program} {w : World} {H : Hp} {h h' : Heap} {fr : List Addr} {x C : Addr} {dx old : Option Addr} (ok : HOk P w H h) (N : xg fr x old h h') (hx : H x = some (ExO false x C dx))
  (hx' : ∃ t0 a1 a2 a3 a4 a5, h'.get? x = some (b8 C dx #[.ref t0, a1, a2, a3, a4, a5]) /\ (dx = none -> a2 = .none)) (hfr : ∀ b ∈ fr, H b = none) (hold : ∀ T, old = some T -> H T = none) : HOk P w H h' := fun a o e => by
 by_cases ha : a = x
 ·subst ha
  rw [hx] at e
  cases e
  obtain ⟨t0, a1, a2, a3, a4, a5, q, q2⟩ := hx'
  exact uV q ⟨fun z => (by cases z), q2⟩
 ·refine (ok a o e).stay (fun b u hb q => ?_) (fun _ q => q) fun _ _ q => q
  have hbn : ∃ v, H b = some v := by
   rcases hb with rfl | hb
   ·exact ⟨_, e⟩
   ·exact ⟨_, hb⟩
  obtain ⟨v, hv⟩ := hbn
  refine N.keep b u q (fun z => ?_) (fun z => ?_) (fun z => ?_)
  ·subst z
   rcases hb with z | hb
   ·exact ha z.symm
   ·rw [hx] at hb; cases hb
  ·have := hold b z.symm
   rw [hv] at this; cases this
  ·have := hfr b z
   rw [hv] at this; cases this
theorem Gi {fs fr : List Addr} {H0 H1 : Hp} {h0 h1 h2 : Heap} {x : Addr} {old : Option Addr} {o : HO} (u : Un fs [] H0 H1 h0 h1) (N : xg fr x old h1 h2) (hx : H1 x = some o)
  (hT : ∀ T, old = some T -> h0.objs.size <= T) (hfr : ∀ b ∈ fr, b ∈ fs \/ h0.objs.size <= b) : Un fs [] H0 H1 h0 h2 where
 keep := fun b ob q n hb he => by
  refine N.keep b ob (u.keep b ob q n hb he) (fun z => ?_) (fun z => ?_) (fun z => ?_)
  ·have := u.free b ob q n he
   rw [z, hx] at this; cases this
  ·exact absurd (Heap.lt_size q) (not_lt.mpr (hT b z.symm))
  ·rcases hfr b z with k | k
   ·exact hb k
   ·exact absurd (Heap.lt_size q) (not_lt.mpr k)
 slot := fun b ob q n hb he => by
  obtain ⟨sl, q1⟩ := u.slot b ob q n hb he
  obtain ⟨sl2, q2⟩ := N.slot b _ q1 (fun z => by have := u.free b ob q n he; rw [z, hx] at this; cases this) (fun z => absurd (Heap.lt_size q) (not_lt.mpr (hT b z.symm)))
  exact ⟨sl2, q2⟩
 free := u.free
 there := fun b ob q he => by
  obtain ⟨o', q1⟩ := u.there b ob q he
  exact N.there b o' q1
 tups := u.tups
 frzs := u.frzs
 tbls := u.tbls
def Fly (h : Heap) (x : Addr) (v : Value) : Prop := ∃ oe vs, h.get? x = some oe /\ oe.data = .fields vs /\ vs[1]? = some v
def CX1 (P : Program) (w : World) : CXT := fun outer H s E e s' => ∃ x C dx T H', e = .ref x /\ s'.os = s.os /\ AllBare s'.gens /\ Un (frs outer) [] H H' s.heap s'.heap /\ HOk P w H' s'.heap /\ H' x = some (ExO false x C dx) /\
 Fly s'.heap x (.ref T) /\ zL s'.heap T /\ H' T = none /\ s.heap.objs.size <= T /\ E e none H'
section
variable {X : Cx} {pins : OP} {σ : St} {H H1 : Hp} {s s1 : Shared} {x C : Addr} {dx : Option Addr}
structure Rz (X : Cx) (pins : OP) (σ : St) (H1 : Hp) (s1 : Shared) (H : Hp) (x C : Addr) (dx : Option Addr) (T : Addr) (s : Shared) : Prop where
 pre : Inv X pins σ H1 s1
 os : s.os = s1.os
 bare : AllBare s.gens
 un : Un (frs X.stack) [] H1 H s1.heap s.heap
 hok : HOk X.prog X.w H s.heap
 at_ : H x = some (ExO false x C dx)
 fly : Fly s.heap x (.ref T)
 tb : zL s.heap T
 off : H T = none
 new : s1.heap.objs.size <= T
theorem Rz.inv {T : Addr} (r : Rz X pins σ H1 s1 H x C dx T s) : Inv X pins σ H s := r.pre.call' r.os r.un r.hok r.bare (fun b z => absurd z Z2)
theorem Qv {C : Addr} {dx : Option Addr} {t0 T : Addr} {a1 a2 a3 a4 a5 : Value} : ({ b8 C dx #[.ref t0, a1, a2, a3, a4, a5] with data := .fields ((#[.ref t0, a1, a2, a3, a4, a5] : Array Value).setIfInBounds 1 (.ref T)) } : Obj) = b8 C dx #[.ref t0, .ref T, a2, a3, a4, a5] := rfl
theorem Kv {old : Option Addr} {T : Addr} {h' : Heap} {t0 : Addr} {a2 a3 a4 a5 : Value} (hst : X.stack = X.env :: X.outer) (I : Inv X pins σ H1 s1) (os : s.os = s1.os) (bare : AllBare s.gens) (u : Un (frs X.stack) [] H1 H s1.heap s.heap) (hok : HOk X.prog X.w H s.heap) (hx : H x = some (ExO false x C dx)) (N : xg (frs (X.env :: X.outer)) x old s.heap h')
  (ex : h'.get? x = some (b8 C dx #[.ref t0, .ref T, a2, a3, a4, a5])) (h2 : dx = none -> a2 = .none) (hT : s.heap.objs.size <= T) (hs : s1.heap.objs.size <= s.heap.objs.size) (tb : zL h' T) (hold : ∀ T0, old = some T0 -> H T0 = none /\ s1.heap.objs.size <= T0) : Rz X pins σ H1 s1 H x C dx T { s with heap := h' } where
 pre := I
 os := os
 bare := bare
 un := Gi u N hx (fun T0 e => (hold T0 e).2) fun b hb => .inl (by rw [hst]; exact hb)
 hok := by
  have fr : ∀ b ∈ frs (X.env :: X.outer), H b = none := fun b hb => by
   have hb : b ∈ frs X.stack := by rw [hst]; exact hb
   obtain ⟨_, o, ho, _⟩ := I.stack.mem hb
   exact u.free b o ho (I.stkFree b hb) Z2
  exact HW hok N hx ⟨_, _, _, _, _, _, ex, h2⟩ fr fun T0 e => (hold T0 e).1
 at_ := hx
 fly := ⟨_, _, ex, rfl, rfl⟩
 tb := tb
 off := hok.fresh hT
 new := le_trans hs hT
theorem Hv {h : Heap} {t0 : Addr} {a1 a2 a3 a4 a5 v : Value} (e : h.get? x = some (b8 C dx #[.ref t0, a1, a2, a3, a4, a5])) (hf : Fly h x v) : (#[.ref t0, a1, a2, a3, a4, a5] : Array Value)[1]? = some v := by
 obtain ⟨oe, vs, e2, hd, h1⟩ := hf
 rw [e] at e2
 cases e2
 cases (show Data.fields #[.ref t0, a1, a2, a3, a4, a5] = .fields vs from hd)
 exact h1
theorem tV {M : Model} {A : Around} {E : EV} {Q : Unit -> Shared -> Prop} (hA : A.frames = some X.stack) (hst : X.stack = X.env :: X.outer) (hfm : X.env.frame = some X.env.locals) (I : Inv X pins σ H1 s1) (os : s.os = s1.os) (bare : AllBare s.gens) (u : Un (frs X.stack) [] H1 H s1.heap s.heap) (hok : HOk X.prog X.w H s.heap)
  (hs : s1.heap.objs.size <= s.heap.objs.size) (hx : H x = some (ExO false x C dx)) (hf : Fly s.heap x .none \/ ∃ T0, Fly s.heap x (.ref T0) /\ zL s.heap T0 /\ H T0 = none /\ s1.heap.objs.size <= T0)
  (q : ∀ T s', Rz X pins σ H1 s1 H x C dx T s' -> Q () s') : wpAny M A (noteFrame (.ref x) X.env) (fun _ s' => wpAny M A (setFlight (.ref x) none) Q E s') E s := by
 obtain ⟨t0, a1, a2, a3, a4, a5, e, hfl⟩ := jw hok hx
 have fun2 : s.heap.FunFrames X.base (X.env :: X.outer) := by
  have f := (I.call' os u hok bare (fun b z => absurd z Z2)).stack
  rwa [hst] at f
 rcases hf with hf | ⟨T0, hf, hT0, hn, hz⟩
 ·refine Cq (hA.trans (congrArg some hst)) fun2 hfm e rfl (Hv e hf) fun h' T N ex hT tb => q T _ ?_
  exact Kv hst I os bare u hok hx N (ex.trans (congrArg some Qv)) hfl.2 hT hs tb fun T0 z => by cases z
 ·refine Fw (hA.trans (congrArg some hst)) fun2 hfm e rfl (Hv e hf) hT0 (aD hx hn).symm fun h' T N ex hT tb => q T _ ?_
  exact Kv hst I os bare u hok hx N (ex.trans (congrArg some Qv)) hfl.2 hT hs tb fun T1 z => by cases z; exact ⟨hn, hz⟩
theorem Rz.flight {M : Model} {A : Around} {E : EV} {Q : Unit -> Shared -> Prop} {T : Addr} (r : Rz X pins σ H1 s1 H x C dx T s) (q : ∀ s', Rz X pins σ H1 s1 H x C dx T s' -> Q () s') : wpAny M A (setFlight (.ref x) none) Q E s := by
 obtain ⟨oe, vs, e, hd, h1⟩ := id r.fly
 obtain ⟨oT, ts, hT, hdT, h3⟩ := id r.tb
 have hne : x ≠ T := aD r.at_ r.off
 refine wpAny_setFlight_none e hd h1 hT hdT (Array.getElem?_eq_some_iff.mp h3).1 (q _ ?_)
 have t1 := Heap.get?_update_self (h := s.heap) (Obj.mapFields (·.setIfInBounds 3 Value.none)) hT (by rw [G8 hdT]; exact uc rfl)
 have o1 : ∀ b, b ≠ T -> (s.heap.update T (Obj.mapFields (·.setIfInBounds 3 Value.none))).get? b = s.heap.get? b := fun b hb => Heap.get?_update_other _ _ (Ne.symm hb)
 rw [G8 hdT] at t1
 have hs3 := (Array.getElem?_eq_some_iff.mp h3).1
 generalize s.heap.update T (Obj.mapFields (·.setIfInBounds 3 Value.none)) = g at t1 o1
 have nt : ∀ b o, s1.heap.get? b = some o -> b ≠ T := fun b o z => ne_of_lt (lt_of_lt_of_le (Heap.lt_size z) r.new)
 refine ⟨r.pre, r.os, r.bare, ⟨fun b o z n hb he => (o1 b (nt b o z)).trans (r.un.keep b o z n hb he), fun b o z n hb he => ?_, r.un.free, fun b o z he => ?_, r.un.tups, r.un.frzs, r.un.tbls⟩, fun a o z => ?_, r.at_, ⟨oe, vs, (o1 x hne).trans e, hd, h1⟩, ⟨_, _, t1, rfl, by simp [hs3]⟩, r.off, r.new⟩
 ·obtain ⟨sl, w⟩ := r.un.slot b o z n hb he
  exact ⟨sl, (o1 b (nt b o z)).trans w⟩
 ·obtain ⟨o', w⟩ := r.un.there b o z he
  exact ⟨o', (o1 b (nt b o z)).trans w⟩
 ·refine (r.hok a o z).stay (fun b u hb w => ?_) (fun _ w => w) fun _ _ w => w
  refine (o1 b fun k => ?_).trans w
  subst k
  rcases hb with rfl | hb
  ·have := r.off; rw [z] at this; cases this
  ·have := r.off; rw [hb] at this; cases this
end
section
variable {P : Program} {w : World} {K : Frag} {mg : MG} {base : Heap} {N : List Str} {qual : Str} {scope : Scope} {f : Addr} {cd : Value} {A : Around} {outer : List Env} {s : Shared} {H : Hp} {E E1 : XK}
theorem leave1 {pins : OP} {σ : St} {H1 : Hp} {s1 : Shared} {x C : Addr} {dx : Option Addr} (I : Inv (nT (CX1 P w) P w K mg base N qual scope f cd A outer s H E) pins σ H1 s1) (hx : H1 x = some (ExO false x C dx)) (hf : Fly s1.heap x .none) (q : E (.ref x) none H1) :
  (nT (CX1 P w) P w K mg base N qual scope f cd A outer s H E).xe (.ref x) s1 := by
 show wpAny _ _ (leaving _ _) _ _ _
 unfold leaving
 refine wpAny_bind (tV (X := nT (CX1 P w) P w K mg base N qual scope f cd A outer s H E) I.ok.frames rfl rfl I rfl I.bare Un.refl I.hok (le_refl _) hx (.inl hf) fun T s' r => ?_)
 exact ⟨x, C, dx, T, H1, rfl, r.inv.os, r.bare, r.inv.base, r.hok, hx, r.fly, r.tb, r.off, le_trans I.sz r.new, q⟩
theorem Ql (hE : ∀ e H', E1 e none H' -> E e none H') : kJ (CX1 P w) (nT (CX1 P w) P w K mg base N qual scope f cd A outer s H E) E1 := fun pins σ H1 s1 e s' I h => by
 obtain ⟨x, C, dx, T, H', rfl, os, bare, un, hok, hx, fl, tb, hn, hz, q⟩ := h
 show wpAny _ _ (leaving _ _) _ _ _
 unfold leaving
 have hs : s1.heap.objs.size <= s'.heap.objs.size := le_trans hz (le_of_lt (by obtain ⟨_, _, e, _⟩ := tb; exact Heap.lt_size e))
 refine wpAny_bind (tV (X := nT (CX1 P w) P w K mg base N qual scope f cd A outer s H E) I.ok.frames rfl rfl I os bare un hok hs hx (.inr ⟨T, fl, tb, hn, hz⟩) fun T2 s2 r => ?_)
 exact ⟨x, C, dx, T2, H', rfl, r.inv.os, r.bare, r.inv.base, r.hok, hx, r.fly, r.tb, r.off, le_trans I.sz r.new, hE _ _ q⟩
end
structure vY (X : Cx) (W : St -> XK) : Prop where
 made : ∀ {pins : OP} {σ : St} {H : Hp} {s : Shared} {x C : Addr} {dx : Option Addr}, Inv X pins σ H s -> H x = some (ExO false x C dx) -> Fly s.heap x .none -> W σ (.ref x) none H -> X.xe (.ref x) s
 came : ∀ {pins : OP} {σ : St} {H : Hp} {s s' : Shared} {e : Value}, Inv X pins σ H s -> CX1 X.prog X.w X.stack H s (W σ) e s' -> X.xe e s'
theorem dJ {P : Program} {w : World} {K : Frag} {mg : MG} {base : Heap} {N : List Str} {qual : Str} {scope : Scope} {f : Addr} {cd : Value} {A : Around} {outer : List Env} {s : Shared} {H : Hp} {E : XK} :
  vY (nT (CX1 P w) P w K mg base N qual scope f cd A outer s H E) (fun _ => E) :=
 ⟨fun I hx hf q => leave1 I hx hf q, fun {pins σ H1 s1 s' e} I h => Ql (fun _ _ q => q) pins σ H1 s1 e s' I h⟩
section
variable {X : Cx} {W : St -> XK} {k : Nat} {f C : Addr} {fd : FuncData} {ps : List Str} {sp : Sp} {x : Str} {st : Stmt} {p pos rpos : Pos} {e : Expr} {es : List Expr} {t : TA}
def Lr (sp : Sp) (W : St -> XK) (t : TA) : TE := fun σ H Q => t σ H fun vs H1 => sp vs H1 Q (W σ)
theorem CN {pins : OP} {σ : St} {H : Hp} {s : Shared} {Q : VK} {us : List Value} {vs : List V} (hw : vY X W) (F : aL X.prog X.w X.K X.mg X.base (CX1 X.prog X.w) k f fd ps sp) (hr : aY k X.A) (hb : Binds X.K fd ps [])
  (I : Inv X pins σ H s) (r : Vals vs us) (h : sp vs H Q (W σ)) : wpAny (model X.prog X.w) X.A (call (.ref f) us) (EP X pins σ Q) X.xe s := by
 have hl : (us ++ []).length = ps.length := by rw [append_nil, <- r.length]; exact F.len _ _ _ _ h
 refine wpAny_call (codeAny_mono (F.run X.A X.stack s H ⟨us, []⟩ (us ++ []) vs Q (W σ) hr I.env0 (hb s us I.kIn hl) (by rw [append_nil]; exact r) h) fun r s' hq => ?_)
 cases r with
 | error e => exact hw.came I hq
 | ok fl =>
  cases fl with
  | ret u => exact I.after hq
  | next => exact False.elim hq
  | brk => exact False.elim hq
  | cont => exact False.elim hq
theorem Ga (A : FnAt X.K X.mg x st ps f fd) (F : aL X.prog X.w X.K X.mg X.base (CX1 X.prog X.w) k f fd ps sp) (hr : aY k X.A) (hw : vY X W) (ha : PA X (e :: es) t) (hg : Gl X x := by rfl) (hdb : (x == ("__debug__" : Str)) = false := by decide) (he : starEach (e :: es) X.env = (false, eval e X.env) :: starEach es X.env := by rfl) (hpl : (backTo pos (starEach es X.env)).any (·.1) = false := by rfl) :
  PE X (.Call (.Name x p) (e :: es) [] pos) (Lr sp W t) := by
 intro pins s σ H Q I h
 refine wpAny_Call_Name_kw (iK I hg A.m ?_ hdb)
 refine callWith_K (h₀ := X.base) I.ok.mod.kin A.F.kp (thn (ha pos pins s σ H _ I h) fun us s1 ⟨vs, H1, I1, r, q⟩ => ⟨I1.kIn, ?_⟩) he hpl
 exact CN hw F hr A.b I1 r q
end
section
variable {P : Program} {w : World} {K : Frag} {mg : MG} {base : Heap}
theorem Fun.okX {x qual : Str} {st : Stmt} {f : Addr} {fd : FuncData} {N ps : List Str} {k : Nat} {sp : Sp} (F : Fun K x qual st f fd) (S : aG N ps (aB st)) (len : ∀ vs H Q E, sp vs H Q E -> vs.length = ps.length)
  (hbody : ∀ (cdv : Value) (A : Around) (outer : List Env) (s : Shared) (H : Hp) (vs : List V) (Q : VK) (E : XK), aY k (A.deeper (envOfC qual (aB st) s.heap.objs.size f cdv)) -> sp vs H Q E ->
   ∃ t, PSs (nT (CX1 P w) P w K mg base N qual (aB st) f cdv A outer s H E) (bZ st) t /\ t { nx := fun _ H' => Q .non H', rt := Q } (start N vs) H) : aL P w K mg base (CX1 P w) (k + 1) f fd ps sp := by
 obtain ⟨oc, od, kV, doc, pm, an, cdv, ct, osl, rfl, lk, hcd⟩ := F.ex
 exact KC lk hcd S len fun A outer s H vs Q E hr h => hbody cdv A outer s H vs Q E hr h
end
section
variable {M : Model} {A : Around} {E : EV} {s : Shared} {env : Env}
theorem Ek {x : Sem Value} {Q : Flow -> Shared -> Prop} (hh : A.handled = none)
  (h : wpAny M A x (fun v s1 => ∃ e C dx vs, ∃ nm q N bs bm hdct sn sub ab col dd k0 k1 k2 k3 k5 nid, v = .ref e /\ s1.heap.get? C = some (excClassObj nm q C N bs bm hdct sn sub ab col dd k0 k1 k2 k3 k5 nid) /\ bm.contains (.type "BaseException") = true /\ s1.heap.get? e = some (b8 C dx vs) /\ vs[1]? = some .none /\ E (.ref e) s1) E s) :
  wpAny M A (raiseStmt env (some x) none) Q E s := by
 unfold raiseStmt
 refine wpAny_bind (thn h fun v s1 hz => ?_)
 obtain ⟨e, C, dx, vs, nm, q, N, bs, bm, hdct, sn, sub, ab, col, dd, k0, k1, k2, k3, k5, nid, rfl, hC, hb, he, h1, hE⟩ := hz
 obtain ⟨hp, g, d, t, os⟩ := s1
 refine wpAny_bind (wpAny_pure ?_)
 have nt : ∀ {Q2 : Bool -> Shared -> Prop}, Q2 false ⟨hp, g, d, t, os⟩ -> wpAny M A (isType (.ref e)) Q2 E ⟨hp, g, d, t, os⟩ := fun {Q2} h2 => by
  unfold isType loadHead
  exact wpAny_bind (wpAny_loadPart he (wpAny_pure h2))
 refine wpAny_bind (wpAny_holding ?_)
 unfold excFromValue isExcClass isInstance
 refine wpAny_bind (wpAny_bind (nt ?_))
 rw [if_neg Z0]
 refine wpAny_pure ?_
 rw [if_neg Z0]
 refine wpAny_bind (wpAny_bind (wpAny_typeOf_ref he (wpAny_isSubtype_exc hC ?_)))
 rw [contains_cons, hb, Bool.or_true, if_pos rfl]
 refine wpAny_pure ?_
 dsimp only
 refine wpAny_bind (nt ?_)
 rw [if_neg Z0]
 unfold raisedInstance
 refine wpAny_bind (wpAny_bind (wpAny_typeOf_ref he (wpAny_bind (wpAny_typeOf_ref hC ?_))))
 rw [if_pos (show ((excClassObj nm q C N bs bm hdct sn sub ab col dd k0 k1 k2 k3 k5 nid).cls == Value.type "type") = true from by rfl)]
 refine wpAny_pure ?_
 unfold setFlight
 refine wpAny_bind (wpAny_bind (wpAny_field he rfl h1 ?_))
 rw [if_neg Z0]
 exact wpAny_pure (wpAny_raiseNew_none hh hE)
end
theorem wL {h : Heap} {bm : List Value} (T : OwnTail h jW bm) : bm.contains (.type "BaseException") = true := by
 induction T with
 | base => rfl
 | own _ _ _ _ ih => rw [contains_cons, ih, Bool.or_true]
section
variable {X : Cx} {W : St -> XK} {pos : Pos} {e : Expr} {te : TE}
theorem Inv.flown {pins : OP} {σ : St} {H : Hp} {s : Shared} {x C : Addr} {dx : Option Addr} {fl : Bool} (I : Inv X pins σ H s) (hx : H x = some (ExO fl x C dx)) : Inv X pins σ (upd H x (ExO false x C dx)) s := by
 obtain ⟨t0, a1, a2, a3, a4, a5, e, hfl⟩ := jw I.hok hx
 exact I.write (x := x) (e := x) (o := ExO false x C dx) (t' := s.toks) (h' := s.heap) (by rw [hx]; exact True.intro) (.inl rfl) (fun b o hb q => q) ⟨_, e⟩ (uV e ⟨fun z => (by cases z), hfl.2⟩)
def Mv (K : Frag) (W : St -> XK) (te : TE) : TS := fun _ σ H => te σ H fun v H1 => ∃ x C dx, v = .ref x /\ H1 x = some (ExO true x C dx) /\ ExC K C /\ W σ (.ref x) none (upd H1 x (ExO false x C dx))
theorem lE (hw : vY X W) (hc : X.calm = true) (he : PE X e te) : QS X (.Raise (some e) none pos) (Mv X.K W te) := ⟨by
 intro pins s σ H D I h
 rw [arm_exec_Raise]
 refine wpAny_bind (wpAny_standAt ?_)
 refine Ek (x := do let v <- eval e X.env; standAt pos; pure v) (I.ok.hd hc) (wpAny_bind (thn (he pins s σ H _ I h) fun u s1 hz => ?_))
 obtain ⟨vv, H1, I1, r, x, C, dx, rfl, hx, c, q⟩ := hz
 obtain rfl : u = Value.ref x := r
 obtain ⟨nm, q', N, bs, bm, hdct, sn, sub, ab, col, dd, k0, k1, k2, k3, k5, hcl, hT⟩ := c
 obtain ⟨t0, a1, a2, a3, a4, a5, e1, hn⟩ := jw I1.hok hx
 have h1 : (#[.ref t0, a1, a2, a3, a4, a5] : Array Value)[1]? = some .none := by rw [hn.1 rfl]; rfl
 refine wpAny_bind (wpAny_standAt (wpAny_pure ⟨x, C, dx, _, nm, q', N, bs, bm, hdct, sn, sub, ab, col, dd, k0, k1, k2, k3, k5, _, rfl, I1.kIn _ _ hcl, wL (hT _ I1.kIn), e1, h1, ?_⟩))
 exact hw.made (I1.flown hx) ak ⟨_, _, e1, rfl, h1⟩ q⟩
end
theorem sub_tt : isSubtype (.type "type") (.type "tuple") = pure false := by kernel_rfl
section
variable {M : Model} {A : Around} {E : EV} {s : Shared}
theorem FJ {x C D : Addr} {oe : Obj} {nm q nm' q' : Str} {N N' : Addr} {bs bm bs' bm' : List Value} {hdct hdct' : Bool} {sn sn' : List Str} {sub sub' : List Value} {ab ab' : Bool} {col col' : Option Bool} {dd dd' : Option Addr} {k0 k1 k2 k3 k5 k0' k1' k2' k3' k5' : Option Value} {nid nid' : String} {Q : Bool -> Shared -> Prop}
  (hC : s.heap.get? C = some (excClassObj nm q C N bs bm hdct sn sub ab col dd k0 k1 k2 k3 k5 nid)) (hD : s.heap.get? D = some (excClassObj nm' q' D N' bs' bm' hdct' sn' sub' ab' col' dd' k0' k1' k2' k3' k5' nid'))
  (he : s.heap.get? x = some oe) (hc : oe.cls = .ref C) (hb : bm'.contains (.type "BaseException") = true) (h : Q ((Value.ref C :: bm).contains (.ref D)) s) : wpAny M A (excMatches (.ref x) (.ref D)) Q E s := by
 obtain ⟨hh, g, d, t, os⟩ := s
 unfold excMatches isInstance
 refine wpAny_bind (wpAny_bind (wpAny_typeOf_ref hD ?_))
 show wpAny M A (isSubtype (.type "type") (.type "tuple")) _ E _
 rw [sub_tt]
 refine wpAny_pure ?_
 rw [if_neg Z0]
 refine wpAny_bind (wpAny_pure ?_)
 have exc : ∀ {Q2 : Bool -> Shared -> Prop}, Q2 true ⟨hh, g, d, t, os⟩ -> wpAny M A (isExcClass (.ref D)) Q2 E ⟨hh, g, d, t, os⟩ := fun {Q2} h2 => by
  unfold isExcClass isType loadHead
  refine wpAny_bind (wpAny_bind (wpAny_loadPart hD (wpAny_pure ?_)))
  rw [if_pos rfl]
  refine wpAny_isSubtype_exc hD ?_
  rw [contains_cons, hb, Bool.or_true]
  exact h2
 dsimp only
 rw [forIn_cons]
 refine wpAny_bind (wpAny_bind (wpAny_bind (exc ?_)))
 rw [if_neg Z0]
 refine wpAny_pure ?_
 dsimp only
 rw [List.forIn_nil]
 refine wpAny_pure ?_
 refine wpAny_bind (wpAny_typeOf_ref he ?_)
 rw [hc, forIn_cons]
 refine wpAny_bind (wpAny_bind (wpAny_bind (wpAny_isSubtype_exc hC ?_)))
 by_cases k : (Value.ref C :: bm).contains (.ref D) = true
 ·rw [if_pos k]
  rw [k] at h
  exact wpAny_pure (wpAny_pure (wpAny_pure h))
 ·have k2 : (Value.ref C :: bm).contains (.ref D) = false := by simpa using k
  rw [if_neg k]
  rw [k2] at h
  refine wpAny_pure ?_
  dsimp only
  rw [List.forIn_nil]
  exact wpAny_pure (wpAny_pure h)
end
section
variable {X : Cx} {pins : OP} {σ : St} {H : Hp} {s : Shared}
theorem LQ {M : Model} {A : Around} {E : EV} {i : Nat} {x : Str} {v : V} {Q : Unit -> Shared -> Prop} (I : Inv X pins σ H s) (hN : X.N.Nodup) (hi : X.N[i]? = some x) (hk : X.env.scope.names.lookup x = some .local) (hσ : σ[i]? = some (some v))
  (h : ∀ s', Inv X pins (σ.set i none) H s' -> Q () s') : wpAny M A (unbindName X.env x) Q E s := by
 obtain ⟨m, hn, hl⟩ := id I.loc
 have hcls : (X.env.scope.kind == .class || (X.env.scope.kind == .module && X.env.locals != X.env.globals)) = false := by rw [I.ok.kind]; rfl
 have hiσ : i < σ.length := by rw [I.len]; exact (List.getElem?_eq_some_iff.mp hi).1
 have cne := I.cne
 obtain ⟨u, _, hu⟩ := hl i x v hi hσ (.inl hk)
 have hm : m x = some u := by
  rcases hu with ⟨_, z⟩ | ⟨z, _⟩
  ·exact z
  ·have hk2 : X.env.kindOf x = some .local := hk
   rw [hk2] at z
   rcases z with z | z <;> cases z
 obtain ⟨oL, _, _, hoL, _⟩ := id hn
 refine wpAny_unbindName_local hk hn hm hcls (fun h' w hn' hs => ?_)
 refine h _ ⟨I.ok, I.os, I.bare, ⟨fun b o e n hb hx => ?_, fun b o e n hb hx => ?_, I.base.free, fun b o e hx => ?_, I.base.tups, I.base.frzs, I.base.tbls⟩, ⟨_, hn', fun j y v' e1 e2 e3 => ?_⟩, fun y c e => ?_, I.free, I.freeC, fun p hp => ?_, fun b ob e => ?_, by simpa using I.len⟩
 ·exact (hs.2 b (ne_of_lt (lt_of_lt_of_le (Heap.lt_size e) I.ok.above))).trans (I.base.keep b o e n hb hx)
 ·obtain ⟨sl, e1⟩ := I.base.slot b o e n hb hx
  exact ⟨sl, (hs.2 b (ne_of_lt (lt_of_lt_of_le (Heap.lt_size e) I.ok.above))).trans e1⟩
 ·obtain ⟨o', e1⟩ := I.base.there b o e hx
  exact ⟨o', (hs.2 b (ne_of_lt (lt_of_lt_of_le (Heap.lt_size e) I.ok.above))).trans e1⟩
 ·by_cases hj : j = i
  ·subst hj
   rw [List.getElem?_set_self hiσ] at e2
   cases e2
  ·rw [List.getElem?_set_ne (Ne.symm hj)] at e2
   obtain ⟨u', r', q⟩ := hl j y v' e1 e2 e3
   refine ⟨u', r', ?_⟩
   rcases q with ⟨k, e⟩ | ⟨k, c, e, z⟩
   ·refine .inl ⟨k, ?_⟩
    have : y ≠ x := fun e => hj (uD hN e1 (e ▸ hi))
    simp [this, e]
   ·exact .inr ⟨k, c, e, z.sameBut hs (cne y c e)⟩
 ·obtain ⟨w', z⟩ := I.cell y c e
  exact ⟨w', z.sameBut hs (cne y c e)⟩
 ·obtain ⟨e, n, ne, nf, d⟩ := I.pin p hp
  exact ⟨(hs.2 p.1 ne).trans e, n, ne, nf, d⟩
 ·refine (I.hok b ob e).stay (fun c w' hc q => (hs.2 c ?_).trans q) (fun _ q => q) fun _ _ q => q
  rintro rfl
  rcases hc with rfl | hc
  ·rw [I.free] at e; cases e
  ·rw [I.free] at hc; cases hc
theorem tK {M : Model} {A : Around} {E : EV} {i : Nat} {x : Str} {pos : Pos} {Q : Unit -> Shared -> Prop} (I : Inv X pins σ H s) (hN : X.N.Nodup) (hi : X.N[i]? = some x) (hk : X.env.scope.names.lookup x = some .local)
  (h : ∀ s', Inv X pins (σ.set i none) H s' -> Q () s') : wpAny M A (do bindName X.env x Value.none; unbindBehindTheSuite X.env x pos) Q E s := by
 have hiσ : i < σ.length := by rw [I.len]; exact (List.getElem?_eq_some_iff.mp hi).1
 refine wpAny_bind (wpAny_bindName (qi I hN hi (.inl hk) (v := V.non) rfl (fun s' I' => ?_) (.inr hk)))
 unfold unbindBehindTheSuite
 refine wpAny_onRaise (LQ I' hN hi hk (List.getElem?_set_self hiσ) fun s2 I2 => ?_)
 rw [set_set] at I2
 exact h s2 I2
end
abbrev Cx.tryc (X : Cx) (pins : OP) (E : EV) : Cx := { X with xe := E, pn := X.pn ++ pins }
abbrev Cx.hand (X : Cx) (x : Addr) (pins : OP) (E : EV) : Cx := { X with A := X.A.mark (some (.ref x)), calm := false, xe := E, pn := X.pn ++ pins }
section
variable {X : Cx} {pins pins' : OP} {σ : St} {H : Hp} {s : Shared} {E : EV} {x : Addr}
theorem Inv.tryc (I : Inv X pins σ H s) : Inv (X.tryc pins E) [] σ H s :=
 ⟨⟨I.ok.mod, I.ok.kind, I.ok.glob, I.ok.blt, I.ok.above, I.ok.inj, I.ok.has, I.ok.cab, I.ok.hd, I.ok.frames, I.ok.stk, I.ok.exf, I.ok.bs, I.ok.bsz, I.ok.noex, I.ok.exfs, I.ok.funs, I.ok.frf⟩, I.os, I.bare, I.base, I.loc, I.cell, I.free, I.freeC, fun p hp => I.pin p (by simpa using hp), I.hok, I.len⟩
theorem Inv.untry (I : Inv (X.tryc pins E) pins' σ H s) : Inv X pins σ H s :=
 ⟨⟨I.ok.mod, I.ok.kind, I.ok.glob, I.ok.blt, I.ok.above, I.ok.inj, I.ok.has, I.ok.cab, I.ok.hd, I.ok.frames, I.ok.stk, I.ok.exf, I.ok.bs, I.ok.bsz, I.ok.noex, I.ok.exfs, I.ok.funs, I.ok.frf⟩, I.os, I.bare, I.base, I.loc, I.cell, I.free, I.freeC, fun p hp => I.pin p (mem_append_left _ hp), I.hok, I.len⟩
theorem Inv.hand (I : Inv X pins σ H s) : Inv (X.hand x pins E) [] σ H s :=
 ⟨⟨I.ok.mod, I.ok.kind, I.ok.glob, I.ok.blt, I.ok.above, I.ok.inj, I.ok.has, I.ok.cab, (fun z => by cases z), I.ok.frames, I.ok.stk, I.ok.exf, I.ok.bs, I.ok.bsz, I.ok.noex, I.ok.exfs, I.ok.funs, I.ok.frf⟩, I.os, I.bare, I.base, I.loc, I.cell, I.free, I.freeC, fun p hp => I.pin p (by simpa using hp), I.hok, I.len⟩
theorem Inv.unhand (ok : X.Ok) (I : Inv (X.hand x pins E) pins' σ H s) : Inv X pins σ H s :=
 ⟨ok, I.os, I.bare, I.base, I.loc, I.cell, I.free, I.freeC, fun p hp => I.pin p (mem_append_left _ hp), I.hok, I.len⟩
end
def Sub (K : Frag) (C D : Addr) : Prop := ∃ nm q N bs bm hdct sn sub ab col dd k0 k1 k2 k3 k5 nid, K.lookup C = some (excClassObj nm q C N bs bm hdct sn sub ab col dd k0 k1 k2 k3 k5 nid) /\ (Value.ref C :: bm).contains (.ref D) = true
def Ends.off (En : Ends) (i : Nat) : Ends := { nx := fun σ H => En.nx (σ.set i none) H, rt := En.rt, bk := fun σ H => En.bk (σ.set i none) H, ct := fun σ H => En.ct (σ.set i none) H }
section
variable {X : Cx} {pins : OP} {σ : St} {H0 H1 : Hp} {s0 s2 : Shared} {x C D T : Addr} {dx : Option Addr} {cx n : Str} {i : Nat} {np hpos pos : Pos} {b₀ : Stmt} {suite body orelse : List Stmt} {rest : List ExceptHandler} {ts to : TS} {En : Ends} {E : EV}
theorem Rz.as {C2 : Addr} {dx2 : Option Addr} (r : Rz X pins σ H0 s0 H1 x C dx T s2) (h : H1 x = some (ExO false x C2 dx2)) : Rz X pins σ H0 s0 H1 x C2 dx2 T s2 := ⟨r.pre, r.os, r.bare, r.un, r.hok, h, r.fly, r.tb, r.off, r.new⟩
theorem JK (r : Rz X pins σ H0 s0 H1 x C dx T s2) (sub : Sub X.K C D) (exD : ExC X.K D) (hg : Gl X cx) (hm : X.mg cx = some (.ref D)) (hdb : (cx == ("__debug__" : Str)) = false) (hN : X.N.Nodup) (hi : X.N[i]? = some n) (hk : X.env.scope.names.lookup n = some .local)
  (hs : QSs (X.hand x pins fun _ _ => False) (b₀ :: suite) ts) (q : ts (En.off i) (σ.set i (some (.ref x))) H1) :
  wpAny (model X.prog X.w) X.A (handleBy (.ref x) X.env (.ExceptHandler (some (.Name cx np)) (some n) (b₀ :: suite) hpos :: rest)) (SP X pins En) E s2 := by
 have Ih := r.inv.hand (x := x) (E := fun _ _ => False)
 refine wpAny_handleBy_cons (codeAny_handlers_test (iK Ih hg hm ?_ hdb)) Z7
 obtain ⟨nm, q', N, bs, bm, hdct, sn, sb, ab, col, dd, k0, k1, k2, k3, k5, hcl, hT⟩ := exD
 obtain ⟨nm2, q2, N2, bs2, bm2, hdct2, sn2, sb2, ab2, col2, dd2, j0, j1, j2, j3, j5, nid, hcl2, hcon⟩ := sub
 obtain ⟨t0, a1, a2, a3, a4, a5, e, _⟩ := jw r.hok r.at_
 refine FJ (r.inv.kIn _ _ hcl2) (r.inv.kIn _ _ hcl) e rfl (wL (hT _ r.inv.kIn)) ?_
 rw [hcon]
 show codeAny _ _ (Code.handlers _ [ExceptHandler.ExceptHandler none (some n) (b₀ :: suite) hpos] _) _ _
 refine codeAny_handlers_suite_as (r.flight fun s3 r3 => ?_)
 refine qi (X := X.hand x pins fun _ _ => False) (pins := []) r3.inv.hand hN hi (.inl hk) (v := V.ref x) rfl (fun s4 I4 => ?_) (.inr hk)
 refine wpAny_mono (hs.h [] s4 _ _ _ I4 q) (fun f s5 q5 => ?_) (fun e s5 z => z.elim)
 cases f with
 | next => obtain ⟨σ', H', I', q'⟩ := q5; exact tK (I'.unhand r.inv.ok) hN hi hk fun s6 I6 => ⟨_, _, I6, q'⟩
 | brk => obtain ⟨σ', H', I', q'⟩ := q5; exact tK (I'.unhand r.inv.ok) hN hi hk fun s6 I6 => ⟨_, _, I6, q'⟩
 | cont => obtain ⟨σ', H', I', q'⟩ := q5; exact tK (I'.unhand r.inv.ok) hN hi hk fun s6 I6 => ⟨_, _, I6, q'⟩
 | ret u => obtain ⟨v, σ', H', I', rv, q'⟩ := q5; exact tK (I'.unhand r.inv.ok) hN hi hk fun s6 I6 => ⟨v, _, _, I6, rv, q'⟩
abbrev uU (X : Cx) (pins : OP) (hs : List ExceptHandler) (En : Ends) : Value -> Shared -> Prop := fun e s1 => wpAny (model X.prog X.w) X.A (noteFrame e X.env) (fun _ s2 => wpAny (model X.prog X.w) X.A (setFlight e none) (fun _ s3 => wpAny (model X.prog X.w) X.A (handleBy e X.env hs) (SP X pins En) X.xe s3) X.xe s2) X.xe s1
theorem Bp {hs : List ExceptHandler} {W : St -> XK} (hst : X.stack = X.env :: X.outer) (hfm : X.env.frame = some X.env.locals)
  (h : ∀ {σ : St} {H0 H1 : Hp} {s0 s2 : Shared} {x C T : Addr} {dx : Option Addr}, Rz X pins σ H0 s0 H1 x C dx T s2 -> W σ (.ref x) none H1 -> wpAny (model X.prog X.w) X.A (handleBy (.ref x) X.env hs) (SP X pins En) X.xe s2) : vY (X.tryc pins (uU X pins hs En)) W where
 made := fun {pins' σ H s x C dx} I hx hf q => tV (X := X) I.ok.frames hst hfm I.untry rfl I.bare Un.refl I.hok (le_refl _) hx (.inl hf) fun T s' r => h r q
 came := fun {pins' σ H s s' e} I z => by
  obtain ⟨x, C, dx, T, H', rfl, os, bare, un, hok, hx, fl, tb, hn, hz, q⟩ := z
  have hs : s.heap.objs.size <= s'.heap.objs.size := le_trans hz (le_of_lt (by obtain ⟨_, _, e, _⟩ := tb; exact Heap.lt_size e))
  exact tV (X := X) I.ok.frames hst hfm I.untry os bare un hok hs hx (.inr ⟨T, fl, tb, hn, hz⟩) fun T2 s2 r => h r q
def N6 (K : Frag) (D : Addr) (i : Nat) (tb : (St -> XK) -> TS) (to ts : TS) : TS := fun En σ H =>
 tb (fun σ1 e _ H1 => ∃ x C dx, e = .ref x /\ H1 x = some (ExO false x C dx) /\ Sub K C D /\ ts (En.off i) (σ1.set i (some (.ref x))) H1) { En with nx := fun σ2 H2 => to En σ2 H2 } σ H
theorem Ng {hs : List ExceptHandler} {h₀ : ExceptHandler} {W : St -> XK} {tb : (St -> XK) -> TS} {s : Shared} {H : Hp} (hw : vY (X.tryc pins (uU X pins (h₀ :: hs) En)) W) (hb : QSs (X.tryc pins (uU X pins (h₀ :: hs) En)) body (tb W)) (ho : QSs X orelse to) (I : Inv X pins σ H s)
  (h : tb W { En with nx := fun σ2 H2 => to En σ2 H2 } σ H) : wpAny (model X.prog X.w) X.A (exec (.Try body (h₀ :: hs) orelse [] pos) X.env) (SP X pins En) X.xe s := by
 refine wpAny_Try_except (wpAny_mono (hb.h [] s σ H _ I.tryc h) (fun f s1 q => ?_) (fun e s1 q => q))
 cases f with
 | next => obtain ⟨σ', H', I', q'⟩ := q; exact ho.h pins s1 σ' H' En I'.untry q'
 | brk => obtain ⟨σ', H', I', q'⟩ := q; exact ⟨_, _, I'.untry, q'⟩
 | cont => obtain ⟨σ', H', I', q'⟩ := q; exact ⟨_, _, I'.untry, q'⟩
 | ret u => obtain ⟨v, σ', H', I', rv, q'⟩ := q; exact ⟨v, _, _, I'.untry, rv, q'⟩
theorem HD {tb : (St -> XK) -> TS} (exD : ExC X.K D) (hm : X.mg cx = some (.ref D)) (hN : X.N.Nodup) (hi : X.N[i]? = some n) (hk : X.env.scope.names.lookup n = some .local) (hst : X.stack = X.env :: X.outer) (hfm : X.env.frame = some X.env.locals)
  (hb : ∀ pins E W, vY (X.tryc pins E) W -> QSs (X.tryc pins E) body (tb W)) (ho : QSs X orelse to) (hs : ∀ x pins, QSs (X.hand x pins fun _ _ => False) (b₀ :: suite) ts) (hg : Gl X cx := by rfl) (hdb : (cx == ("__debug__" : Str)) = false := by decide) :
  QS X (.Try body [.ExceptHandler (some (.Name cx np)) (some n) (b₀ :: suite) hpos] orelse [] pos) (N6 X.K D i tb to ts) := ⟨by
 intro pins s σ H En I h
 refine Ng (tb := tb) (Bp hst hfm fun {σ1 H0 H1 s0 s2 x C T dx} r q => ?_) (hb pins _ _ (Bp hst hfm fun {σ1 H0 H1 s0 s2 x C T dx} r q => ?_)) ho I h
 all_goals
  obtain ⟨x2, C2, dx2, ex, hx2, sub, q2⟩ := q
  cases ex
  exact JK (r.as hx2) sub exD hg hm hdb hN hi hk (hs x pins) q2⟩
end
section
variable {X : Cx} {W : St -> XK} {k : Nat} {f C : Addr} {fd : FuncData} {ps : List Str} {sp : Sp} {m : Str} {p pos apos : Pos} {e o : Expr} {es : List Expr} {ta : TE} {t : TA}
def M9 (C : Addr) (m : Str) (sp : Sp) (W : St -> XK) (ta : TE) (t : TA) : TE := fun σ H Q => ta σ H fun x H1 => ∃ a dx fs, x = .ref a /\ H1 a = some (.ins C dx fs) /\ fs.lookup m = none /\ t σ H1 fun vs H2 => sp (x :: vs) H2 Q (W σ)
theorem qx {pl : Sem Bool} (he : PE X o ta) (c : Cls X.K C) (hm : Meth X.K C m f) (F : aL X.prog X.w X.K X.mg X.base (CX1 X.prog X.w) k f fd ps sp) (hr : aY k X.A) (hb : Binds X.K fd ps []) (hw : vY X W) (ha : PA X (e :: es) t)
  (hst : starEach (e :: es) X.env = (false, eval e X.env) :: starEach es X.env := by rfl) (hpl : (backTo pos (starEach es X.env)).any (·.1) = false := by rfl)
  (ht : eval (.Call (.Attribute o m apos) (e :: es) [] pos) X.env = (do
   let ov <- eval o X.env
   standAt apos.atName
   let (f, first) <- holding [ov] (getMethod ov m pl)
   callWith pos f first (backTo pos (starEach (e :: es) X.env)) (backToKw pos (keywordEach [] X.env))) := by rfl) :
  PE X (.Call (.Attribute o m apos) (e :: es) [] pos) (M9 C m sp W ta t) := by
 intro pins s σ H Q I h
 refine methodCall_KW (pl := pl) (thn (he pins s σ H _ I h) fun u s1 ⟨x, H1, I1, rx, a, dx, fs, ex, ea, l, q⟩ => ?_) ht
 subst ex
 obtain rfl : u = Value.ref a := rx
 refine mJ I1 ea c hm l ?_
 refine callWith_K (first := [.ref a]) (h₀ := X.base) I.ok.mod.kin hm.kp (thn (ha pos pins s1 σ H1 _ I1 q) fun us s2 ⟨vs, H2, I2, r, q2⟩ => ⟨I2.kIn, ?_⟩) hst hpl
 exact CN (us := .ref a :: us) (vs := .ref a :: vs) hw F hr hb I2 (.cons rfl r) q2
theorem CT : OpR X (compareOp .IsNot) (fun x y H Q => ∃ a b, x = .bl a /\ y = .bl b /\ Q (.bl (!(a == b))) H) := by
 intro pins s σ H x y v u Q I rx ry h
 obtain ⟨a, b, rfl, rfl, q⟩ := h
 cases rx; cases ry
 have e : compareOp .IsNot (.bool a) (.bool b) = pure (Value.bool (!(a == b))) := by cases a <;> cases b <;> rfl
 rw [e]
 exact wpAny_pure ⟨.bl (!(a == b)), H, I, rfl, q⟩
theorem vd : MtR X "str.count" (fun x vs H Q => ∃ z y, x = .str z /\ vs = [.str y] /\ Q (.int (Txt.count z y)) H) := by
 intro pins s σ H x vs v us Q I rx rv h
 obtain ⟨z, y, rfl, rfl, q⟩ := h
 obtain ⟨t, rfl⟩ := rx
 obtain ⟨u, rfl, t2, rfl⟩ := vals1 rv
 exact SC.count ⟨.int _, H, I.tok _, ⟨_, rfl⟩, q⟩
theorem xJ : vY X (fun _ => E0) := ⟨fun _ _ _ q => q.elim, fun _ z => by obtain ⟨_, _, _, _, _, _, _, _, _, _, _, _, _, _, _, q⟩ := z; exact q.elim⟩
theorem yp {K : Frag} (h : X.K = K) : OpR X (compareOp .In) (rIn K false) := by subst h; exact o7
theorem jL {K : Frag} {m : Str} (h : X.K = K) (he : PE X e ta) (hb : attributeBase e m X.env (eval e X.env) = eval e X.env) : PE X (.Attribute e m pos) (Ou K ta m) := by subst h; exact bC he hb
theorem Ab : ∀ {ys : List Str} {us : List Value}, Vals (ys.map V.str) us -> StrsAre us ys
 | [], _, h => by cases h; exact .nil
 | y :: ys, _, h => by
  cases h with
  | cons r t =>
   obtain ⟨tk, rfl⟩ := r
   exact .cons y tk (Ab t)
theorem zK : ∀ {ys : List Str} {us : List Value}, StrsAre us ys -> Vals (ys.map V.str) us
 | _, _, .nil => .nil
 | _, _, .cons y t h => .cons ⟨t, rfl⟩ (zK h)
theorem nC : jg X (.builtin "sorted") (fun xs H Q => ∃ p ys, xs = [.ref p] /\ SqL X.K H p (ys.map V.str) /\ ys.length < 64 /\ ∀ l ys', ys'.Perm ys -> sortedS ys' = true -> H l = none -> Q (.ref l) (upd H l (.lst (ys'.map V.str)))) := by
 intro pins s σ H xs us Q I r h
 obtain ⟨p, ys, rfl, hl, hn, q⟩ := h
 obtain ⟨u, rfl, ru⟩ := vals1 r
 obtain rfl : u = Value.ref p := ru
 obtain ⟨its, hv, hp, _⟩ := I.list hl
 have hlen : its.length = ys.length := by have := hv.length; rw [length_map] at this; exact this.symm
 refine sorted_strs hp.isList (Ab hv) Z1 fun out ss' h1 h2 h3 => ?_
 obtain ⟨e, he⟩ := sortedAll_at s.heap its out
 have hz : (ss'.map V.str).length <= sizeLine := by rw [length_map, h2.length_eq]; exact le_trans (le_of_lt hn) Z0
 refine ⟨.ref (s.heap.objs.size + 1), _, I.laid (a := s.heap.objs.size + 1) (o := .lst (ss'.map V.str)) (t' := s.toks) (fun b o z => sortedAll_old z) (le_succ _) ?_, rfl, q _ ss' h2 h3 (I.hok.fresh (le_succ _))⟩
 exact ⟨hz, out.toList, e, zK h1, by simpa [seqObj] using he⟩
end
section
variable {X : Cx} {W : St -> XK} {k : Nat} {f C : Addr} {fd : FuncData} {ps : List Str} {sp : Sp} {x : Str} {p p2 pos : Pos} {e stp : Expr} {es : List Expr} {te tf : TE} {tk : TO} {t : TA}
theorem Hn {b : List Stmt} : QSs X b (fun _ _ _ => False) := ⟨by
 intro pins s σ H En I h
 exact h.elim⟩
end
section
variable {prog : Program} {w : World} {A : Around} {E : EV} {s : Shared}
end
section
variable {X : Cx}
end
structure Dj (P : Program) (w : World) (K : Frag) (mg : MG) (base : Heap) (k : Nat) (f : Addr) (fd : FuncData) (ps : List Str) (sp : Sp) : Prop where
 len : ∀ vs H Q E, sp vs H Q E -> vs.length = ps.length
 run : ∀ (A : Around) (x : Addr) (outer : List Env) (s : Shared) (H : Hp) (args : Args) (us : List Value) (vs : List V) (Q : VK) (E : XK), aY k A -> Bh P w K mg base A outer s H -> BindsTo s fd args (ps.zip us) -> Vals vs us -> sp vs H Q E ->
  codeAny (model P w) (A.mark (some (.ref x))) (.call (.ref f) args) (CR CX0 outer P w H s Q E) s
section
variable {P : Program} {w : World} {K : Frag} {mg : MG} {base : Heap}
theorem Fun.okH {x qual : Str} {st : Stmt} {f : Addr} {fd : FuncData} {N ps : List Str} {k : Nat} {sp : Sp} (F : Fun K x qual st f fd) (S : aG N ps (aB st)) (len : ∀ vs H Q E, sp vs H Q E -> vs.length = ps.length)
  (hbody : ∀ (cdv : Value) (A : Around) (outer : List Env) (s : Shared) (H : Hp) (vs : List V) (Q : VK) (E : XK) (y : Addr), aY k (A.deeper (envOfC qual (aB st) s.heap.objs.size f cdv)) -> sp vs H Q E ->
   ∃ t, PSs ((nT CX0 P w K mg base N qual (aB st) f cdv A outer s H E).hand y [] fun _ _ => False) (bZ st) t /\ t { nx := fun _ H' => Q .non H', rt := Q } (start N vs) H) : Dj P w K mg base (k + 1) f fd ps sp := by
 obtain ⟨oc, od, kV, doc, pm, an, cdv, ct, osl, rfl, lk, hcd⟩ := F.ex
 refine ⟨len, fun A y outer s H args us vs Q E hr e0 hb r hsp => ?_⟩
 have hl := len _ _ _ _ hsp
 have KX : K.In s.heap := e0.mod.kin.keeps fun b o e => (e0.bs b o e).1
 have lim : s.heap.NoLimit := e0.mod.nolimit.keeps fun b o e => (e0.bs b o e).1
 have hkind : ∀ z ∈ ps.zip us, (aB st).names.lookup z.1 = some .local \/ ((aB st).names.lookup z.1 = some .cell /\ ((cellsFrom (s.heap.objs.size + 1) (aB st).names []).lookup z.1).isSome = true) := fun ⟨n, v⟩ hy => by
  rcases S.par n (of_mem_zip hy).1 with q | q
  ·exact .inl q
  ·exact .inr ⟨q, cellsFrom_some _ _ _ (.inl q)⟩
 refine codeAny_call_function (A := A.mark (some (.ref y))) hr.depth (KX _ _ lk) rfl S.co S.gen rfl (codeRec_of KX hcd) (hb _ _ _ _ ?_)
 refine wpAny_newFunctionEnv_cells S.kind hkind fun env he s1 x => ?_
 subst he
 refine ⟨lim.keeps x.toInCall.keep, codeAny_func ?_⟩
 obtain ⟨t, ht, hq⟩ := hbody cdv A outer s H vs Q E y (hr.deeper _) hsp
 have I : Inv (nT CX0 P w K mg base N qual (aB st) f cdv A outer s H E) [] (start N vs) H s1 := wz S hr.hd e0 hl r x
 refine wpAny_mono (ht [] s1 (start N vs) H _ I.hand hq) (fun fl s' hs => ?_) fun e s' hs => hs.elim
 have fin : ∀ {σ' : St} {H' : Hp} {v : V} {u : Value}, Inv ((nT CX0 P w K mg base N qual (aB st) f cdv A outer s H E).hand y [] fun _ _ => False) [] σ' H' s' -> RelV v u -> Q v H' -> CE outer P w H s Q u s' :=
  fun {σ' H' v u} J rv q => ⟨v, H', J.os, J.bare, J.base, J.hok, rv, q⟩
 cases fl with
 | ret u =>
  obtain ⟨v, σ', H', J, rv, q⟩ := hs
  exact fin J rv q
 | next =>
  obtain ⟨σ', H', J, q⟩ := hs
  exact fin (v := V.non) (u := Value.none) J rfl q
 | brk =>
  obtain ⟨_, _, _, q⟩ := hs
  exact False.elim q
 | cont =>
  obtain ⟨_, _, _, q⟩ := hs
  exact False.elim q
end
section
variable {X : Cx} {k : Nat} {f y : Addr} {fd : FuncData} {ps : List Str} {sp : Sp} {x : Str} {st : Stmt} {p pos : Pos} {e : Expr} {es : List Expr} {t : TA} {pins0 : OP} {E0' : EV}
theorem M6 (A : FnAt X.K X.mg x st ps f fd) (F : Dj X.prog X.w X.K X.mg X.base k f fd ps sp) (hr : aY k X.A) (ha : PA (X.hand y pins0 E0') (e :: es) t) (hg : Gl (X.hand y pins0 E0') x := by rfl) (hdb : (x == ("__debug__" : Str)) = false := by decide)
  (he : starEach (e :: es) X.env = (false, eval e X.env) :: starEach es X.env := by rfl) (hpl : (backTo pos (starEach es X.env)).any (·.1) = false := by rfl) :
  PE (X.hand y pins0 E0') (.Call (.Name x p) (e :: es) [] pos) (Dh sp [] E0 t) := by
 intro pins s σ H Q I h
 refine wpAny_Call_Name_kw (iK I hg A.m ?_ hdb)
 refine callWith_K (h₀ := X.base) I.ok.mod.kin A.F.kp (thn (ha pos pins s σ H _ I h) fun us s1 ⟨vs, H1, I1, r, q⟩ => ⟨I1.kIn, ?_⟩) he hpl
 have q : sp (vs ++ []) H1 Q E0 := q
 rw [append_nil] at q
 have hl : (us ++ []).length = ps.length := by rw [append_nil, <- r.length]; exact F.len _ _ _ _ q
 have e0 := I1.env0
 refine wpAny_call (codeAny_mono (F.run X.A y X.stack s1 H1 ⟨us, []⟩ (us ++ []) vs Q E0 hr ⟨e0.frames, e0.mod, e0.bs, e0.bsz, e0.funs, e0.frf, e0.hok, e0.bare⟩ (A.b s1 us I1.kIn hl) (by rw [append_nil]; exact r) q) fun r s' hq => ?_)
 cases r with
 | error e => exact hq.elim
 | ok fl =>
  cases fl with
  | ret u => exact I1.after hq
  | next => exact False.elim hq
  | brk => exact False.elim hq
  | cont => exact False.elim hq
end
section
variable {X : Cx} {W : St -> XK} {k : Nat} {f C : Addr} {fd : FuncData} {ps : List Str} {sp : Sp} {x : Str} {p pos : Pos} {e : Expr} {es : List Expr} {t : TA}
def M5 (C : Addr) (sp : Sp) (W : St -> XK) (t : TA) : TE := fun σ H Q => t σ H fun vs H1 => ∀ x dx, H1 x = none -> H1 dx = none -> dx ≠ x -> sp (.ref x :: vs) (upd (upd H1 dx (.own x)) x (.ins C dx [])) (fun v H2 => v = .non /\ Q (.ref x) H2) (W σ)
theorem xT (M : Mk X.K C f) (hb : Binds X.K fd ps []) (F : aL X.prog X.w X.K X.mg X.base (CX1 X.prog X.w) k f fd ps sp) (hr : aY (k + 1) X.A) (hm : X.mg x = some (.ref C)) (hw : vY X W) (ha : PA X (e :: es) t) (hg : Gl X x := by rfl)
  (hdb : (x == ("__debug__" : Str)) = false := by decide) (he : starEach (e :: es) X.env = (false, eval e X.env) :: starEach es X.env := by rfl) (hpl : (backTo pos (starEach es X.env)).any (·.1) = false := by rfl) :
  PE X (.Call (.Name x p) (e :: es) [] pos) (M5 C sp W t) := by
 intro pins s σ H Q I h
 refine wpAny_Call_Name_kw (iK I hg hm ?_ hdb)
 refine callWith_K (h₀ := X.base) I.ok.mod.kin M.kp (thn (ha pos pins s σ H _ I h) fun us s1 ⟨vs, H1, I1, r, q⟩ => ⟨I1.kIn, ?_⟩) he hpl
 have hq := q (s1.heap.objs.size + 1) s1.heap.objs.size (I1.hok.fresh (le_succ _)) (I1.hok.fresh (le_refl _)) (ne_of_lt (Nat.lt_succ_self _))
 have I2 := Inv.made (C := C) I1
 have r2 : Vals (V.ref (s1.heap.objs.size + 1) :: vs) (Value.ref (s1.heap.objs.size + 1) :: us) := .cons rfl r
 have hl : (Value.ref (s1.heap.objs.size + 1) :: us ++ []).length = ps.length := by
  have e := r2.length
  rw [F.len _ _ _ _ hq] at e
  rw [append_nil]
  exact e.symm
 refine wpAny_call (Ax (f := f) I1.kIn M.makes M.init (beq_iff_eq.mp M.fn) (codeAny_mono (F.run _ X.stack _ _ ⟨Value.ref (s1.heap.objs.size + 1) :: us, []⟩ (Value.ref (s1.heap.objs.size + 1) :: us ++ []) _ _ (W σ) (hr.make C us [])
  (I2.env0.make C us []) (hb _ (Value.ref (s1.heap.objs.size + 1) :: us) I2.kIn hl) (by rw [append_nil]; exact r2) hq) fun r s' hq' => ?_))
 cases r with
 | error e => exact hw.came I2 hq'
 | ok fl =>
  cases fl with
  | ret u =>
   obtain ⟨v, H', I3, rv, ev, q3⟩ := I2.after hq'
   subst ev
   exact ⟨rv, ⟨V.ref (s1.heap.objs.size + 1), H', I3, rfl, q3⟩⟩
  | next => exact False.elim hq'
  | brk => exact False.elim hq'
  | cont => exact False.elim hq'
end
section
variable {X : Cx}
end
inductive xn (K : Frag) (H : Hp) : Nat -> V -> V -> Prop where
 | str {n : Nat} (x y : Str) : xn K H n (.str x) (.str y)
 | tup {n : Nat} {a b : Addr} {xs ys : List V} (ha : SqT K H a xs) (hb : SqT K H b ys) (h : ∀ (i : Nat) x y, xs[i]? = some x -> ys[i]? = some y -> xn K H n x y) : xn K H (n + 1) (.ref a) (.ref b)
 | lst {n : Nat} {a b : Addr} {xs ys : List V} (ha : SqL K H a xs) (hb : SqL K H b ys) (h : ∀ (i : Nat) x y, xs[i]? = some x -> ys[i]? = some y -> xn K H n x y) : xn K H (n + 1) (.ref a) (.ref b)
section
variable {X : Cx} {pins : OP} {σ : St} {H : Hp} {s : Shared}
theorem rP {A : Around} {xs ys : List V} {us ws : List Value} (r1 : Vals xs us) (r2 : Vals ys ws) (h : ∀ (i : Nat) x y, xs[i]? = some x -> ys[i]? = some y -> ∀ {u v : Value}, RelV x u -> RelV y v -> ∃ e, SeqAt.EqAt A s u v e) :
  ∃ e : Nat -> Bool, ∀ j (h1 : j < us.toArray.size) (h2 : j < ws.toArray.size), SeqAt.EqAt A s us.toArray[j] ws.toArray[j] (e j) := by
 classical
 refine ⟨fun j => if h1 : j < us.toArray.size then if h2 : j < ws.toArray.size then if SeqAt.EqAt A s us.toArray[j] ws.toArray[j] true then true else false else false else false, fun j h1 h2 => ?_⟩
 have h1' : j < us.length := by simpa using h1
 have h2' : j < ws.length := by simpa using h2
 obtain ⟨x, ex, rx⟩ := r1.at h1'
 obtain ⟨y, ey, ry⟩ := r2.at h2'
 obtain ⟨e, he⟩ := h j x y ex ey (u := us.toArray[j]) (v := ws.toArray[j]) (by simpa using rx) (by simpa using ry)
 dsimp only
 rw [dif_pos h1, dif_pos h2]
 split
 ·assumption
 ·cases e with
  | true => rename_i k; exact absurd he k
  | false => exact he
theorem xn.at (I : Inv X pins σ H s) {n : Nat} {x y : V} (d : xn X.K H n x y) : ∀ {A : Around} {u v : Value}, A.units + n < cLine -> RelV x u -> RelV y v -> ∃ e, SeqAt.EqAt A s u v e := by
 induction d with
 | str x y =>
  intro A u v hu ru rv
  obtain ⟨t, rfl⟩ := ru
  obtain ⟨t', rfl⟩ := rv
  exact ⟨_, SeqAt.EqAt.str_str (A := A) (s := s) x t y t'⟩
 | @tup n a b xs ys ha hb h ih =>
  intro A u v hu ru rv
  cases ru; cases rv
  by_cases hab : a = b
  ·subst hab; exact ⟨true, SeqAt.EqAt.same _⟩
  ·obtain ⟨us, r1, p1, _⟩ := I.tuple ha
   obtain ⟨ws, r2, p2, _⟩ := I.tuple hb
   obtain ⟨e, he⟩ := rP (A := A.in1) (s := s) r1 r2 fun j x y ex ey {u v} ru rv => ih j x y ex ey (A := A.in1) (show A.units + 1 + n < cLine by omega) ru rv
   exact ⟨_, SeqAt.EqAt.of_refs hab (SeqAt.RcAt.tuples (A := A) (s := s) (show s.heap.IsTuple a us.toArray from p1) (show s.heap.IsTuple b ws.toArray from p2) Z1 he)⟩
 | @lst n a b xs ys ha hb h ih =>
  intro A u v hu ru rv
  cases ru; cases rv
  by_cases hab : a = b
  ·subst hab; exact ⟨true, SeqAt.EqAt.same _⟩
  ·obtain ⟨us, r1, p1, _⟩ := I.list ha
   obtain ⟨ws, r2, p2, _⟩ := I.list hb
   by_cases hl : us.toArray.size = ws.toArray.size
   ·obtain ⟨e, he⟩ := rP (A := A.in1) (s := s) r1 r2 fun j x y ex ey {u v} ru rv => ih j x y ex ey (A := A.in1) (show A.units + 1 + n < cLine by omega) ru rv
    exact ⟨_, SeqAt.EqAt.of_refs hab (SeqAt.RcAt.lists (A := A) (s := s) p1.isList p2.isList hl Z1 he)⟩
   ·exact ⟨_, SeqAt.EqAt.of_refs hab (SeqAt.RcAt.lists_lengths (A := A) (s := s) p1.isList p2.isList (by simpa using hl) Z1)⟩
def Q8 (K : Frag) : R2 := fun x y H Q => ∃ (a b : Addr) (xs ys : List V) (n : Nat), x = .ref a /\ y = .ref b /\ SqL K H a xs /\ SqL K H b ys /\ n <= 60 /\ (∀ (i : Nat) x y, xs[i]? = some x -> ys[i]? = some y -> xn K H n x y) /\ ∀ r, ((xs = ys /\ ∀ v ∈ xs, ∃ p, v = V.ref p) -> r = true) -> Q (.bl r) H
theorem Nv {K : Frag} (hK : X.K = K) (hu : X.A.units + 64 < cLine) : OpR X (compareOp .Eq) (Q8 K) := by
 subst hK
 intro pins s σ H x y v u Q I rx ry h
 obtain ⟨a, b, xs, ys, n, rfl, rfl, ha, hb, hn, hd, q⟩ := h
 cases rx; cases ry
 obtain ⟨us, r1, p1, _⟩ := I.list ha
 obtain ⟨ws, r2, p2, _⟩ := I.list hb
 have l1 := r1.length
 have l2 := r2.length
 by_cases hl : us.toArray.size = ws.toArray.size
 ·by_cases hx : xs = ys /\ ∀ v ∈ xs, ∃ p, v = V.ref p
  ·obtain ⟨rfl, hx⟩ := hx
   refine SeqAt.eq_listAt (e := fun _ => true) p1.isList p2.isList hl Z1 (fun j h1 h2 => ?_) ?_
   ·have h1' : j < us.length := by simpa using h1
    have h2' : j < ws.length := by simpa using h2
    obtain ⟨x, ex, rx⟩ := r1.at h1'
    obtain ⟨y, ey, ry⟩ := r2.at h2'
    rw [ex] at ey
    cases ey
    obtain ⟨p, rfl⟩ := hx x (mem_of_getElem? ex)
    exact DEq.at I (.same (n := 0) p) (A := X.A.in1) (show X.A.units + 1 + 0 < cLine by omega) (by simpa using rx) (by simpa using ry)
   ·rw [oO]
    exact ⟨.bl true, H, I, rfl, q true fun _ => rfl⟩
  ·obtain ⟨e, he⟩ := rP (A := X.A.in1) (s := s) r1 r2 fun j x y ex ey {u v} ru rv => (hd j x y ex ey).at I (A := X.A.in1) (show X.A.units + 1 + n < cLine by omega) ru rv
   exact SeqAt.eq_listAt p1.isList p2.isList hl Z1 he ⟨.bl _, H, I, rfl, q _ fun z => absurd z hx⟩
 ·refine SeqAt.eq_list_lengthsAt p1.isList p2.isList (by simpa using hl) Z1 ⟨.bl false, H, I, rfl, q false fun z => absurd ?_ hl⟩
  rw [size_toArray, size_toArray, <- l1, <- l2, z.1]
end
section
variable {prog : Program} {w : World} {A : Around} {E : EV} {s : Shared}
theorem nZ : entryFor table "dict.update.loop" = some Builtin.«dict.update.loop» := entryFor_of_tree Z5
theorem oU : plainId "dict.update.loop" = true := by decide +kernel
theorem uv : typeLookup (.type "list") "keys" = pure none := am_miss_of_fast Z5
theorem pG {a : Addr} {o : Obj} {xs : Array Value} {k : Nat} {name : Str} {Q : Option Value -> Shared -> Prop}
  (hx : s.heap.get? a = some o) (hc : o.cls = .type "list") (hdat : o.data = .seq xs k) (hd : o.dict = none) (hmiss : typeLookup (.type "list") name = pure none) (hname : (["__module__", "__name__", "__qualname__", "__doc__", "__annotations__"] : List Str).contains name = false) (hA : A.handled = none)
  (h : ∀ h' tk e, Heap.NewExcOf s.heap h' e "AttributeError" -> Q none { s with heap := h', toks := tk }) (hsz : name.length + 100 <= sizeLine := by size_fits) :
  wpAny (model prog w) A (getAttr? (.ref a) name) Q E s := by
 obtain ⟨c, dct, dat, sl⟩ := o
 simp only at hc hdat hd
 subst hc hdat hd
 obtain ⟨hp, g, d, tk, os⟩ := s
 have hT : ∀ tk', (⟨hp, g, d, tk', os⟩ : Shared).TypeIs (.ref a) "list" := fun _ => ⟨_, hx, rfl⟩
 have f1 := sub_AttributeError
 have f3 := F.slot_list_getattribute.lookup
 have f4 := F.slot_list_getattribute.bind (.ref a)
 have f5 := am_list_getattr_none
 unfold getAttr? getAttrBy? getAttrBy
 repeat (any_goals (first | assumption | exact hT _ | ((with_reducible show wpAny _ _ (call (Value.builtin "list.__getattribute__") _ _) _ _ _); refine call_meets F.slot_list_getattribute (hT _) am_entry_list_getattribute (F.args_list_getattribute_2 _ _) (meets_getattribute_miss_list a xs k sl name _ hmiss hname hsz) ⟨hx, hA, fun h' tk' e hx' => ?_⟩) | wp_step))
 obtain ⟨t', u', he⟩ := hx'.there
 show wpAny _ _ (getattributeRaised _ _ _ _ _ _ _) _ _ _
 unfold getattributeRaised
 repeat (any_goals (first | assumption | wp_step))
 exact h _ _ _ hx'.of
def Kept (h h' : Heap) : Prop := ∀ b o, h.get? b = some o -> h'.get? b = some o
section
variable {K : Type} [DecidableEq K] {knd : KeyKind prog w K}
def vM (ps : List (K × Value)) : List (K × Value) := ps.foldl (fun kvs p => stored kvs p.1 p.2) []
theorem Gu {h0 : Heap} {s0 : Shared} {l it d : Addr} {its : Array Value} {ps : List (K × Value)} {R : Result -> Shared -> Prop} (hl : h0.IsList l its) (hlen : its.size = ps.length)
  (hps : ∀ (i : Nat) p, ps[i]? = some p -> ∃ t u, its[i]? = some (.ref t) /\ h0.IsTuple t #[u, p.2] /\ knd.is p.1 u = true) (hit0 : h0.get? it = none) (hd0 : h0.get? d = none) (hne : it ≠ d) (hA : A.handled = none) (hz : ∀ i, (vM (ps.take i)).length <= sizeLine)
  (h : ∀ h' tk, Kept h0 h' -> h'.DictOf knd d (vM ps) -> R (.ok (.ret .none)) { s0 with heap := h', toks := tk }) :
  ∀ (n i : Nat) (h1 : Heap) (t1 : Nat), ps.length - i = n -> i <= ps.length -> Kept h0 h1 -> h1.IsListIter it l i -> h1.DictOf knd d (vM (ps.take i)) -> codeAny (model prog w) A (.builtin "dict.update.loop" ⟨[.ref d, .ref it, rawInt i, .none], []⟩) R { s0 with heap := h1, toks := t1 } := by
 intro n
 induction n with
 | zero =>
  intro i h1 t1 hn hi hk hit hd
  obtain rfl : i = ps.length := by omega
  refine codeAny_builtin nZ ?_
  rw [Around.under_plainId oU _]
  unfold Builtin.«dict.update.loop»
  obtain ⟨ol, hol, hoc, nl, hod⟩ := id hl
  refine wpAny_bind (wpAny_pyNext_list_end (s := { s0 with heap := h1, toks := t1 }) (show A.in1.handled = none from hA) hit ⟨ol, hk _ _ hol, hoc, nl, hod⟩ (by rw [Array.getElem?_eq_none_iff]; omega) fun h' eb => ?_)
  show wpAny _ _ (Builtin.Dict.addKeywords d [] >>= fun _ => ret Value.none) _ _ _
  refine wpAny_bind (wpAny_pure (wpAny_pure (h h' t1 (fun b o e => eb b o (fun z => by rw [z, hit0] at e; cases e) (hk _ _ e)) ?_)))
  rw [take_length] at hd
  obtain ⟨o, es, ep, ho, r⟩ := hd
  exact ⟨o, es, ep, eb d o hne.symm ho, r⟩
 | succ n ih =>
  intro i h1 t1 hn hi hk hit hd
  have hi2 : i < ps.length := by omega
  obtain ⟨t, u, et, ht, hu⟩ := hps i ps[i] (getElem?_eq_getElem hi2)
  refine codeAny_builtin nZ ?_
  rw [Around.under_plainId oU _]
  unfold Builtin.«dict.update.loop»
  obtain ⟨ol, hol, hoc, nl, hod⟩ := id hl
  refine wpAny_bind (wpAny_pyNext_list_item (s := { s0 with heap := h1, toks := t1 }) hit ⟨ol, hk _ _ hol, hoc, nl, hod⟩ et fun h' st' sb => ?_)
  obtain ⟨ot, hot, hotc, nt, hotd⟩ := id ht
  have hot' : h'.get? t = some ot := (sb.2 t (fun z => by rw [z, hit0] at hot; cases hot)).trans (hk _ _ hot)
  have hT : ({ s0 with heap := h', toks := t1 } : Shared).TypeIs (.ref t) "tuple" := ⟨_, hot', hotc⟩
  have hd' : h'.DictOf knd d (vM (ps.take i)) := by
   obtain ⟨o, es, ep, ho, r⟩ := hd
   exact ⟨o, es, ep, (sb.2 d hne.symm).trans ho, r⟩
  show wpAny _ _ (holding [Value.ref t] _ >>= _) _ _ _
  refine wpAny_bind (wpAny_holding (wpAny_bind (wpAny_tryCatch ?_)))
  unfold Builtin.Dict.pairItems
  refine wpAny_bind (wpAny_typeOf hT ?_)
  rw [if_pos Z0]
  refine wpAny_bind (wpAny_seqItems hot' hotd (wpAny_pure ?_))
  show wpAny _ _ (holding [u, ps[i].2] (dictSet d u ps[i].2)) _ _ _
  refine wpAny_holding (wpAny_dictSet_pairs (hsz := hz i) hu hd' fun h2 hd2 sb2 => ?_)
  refine wpAny_pure ⟨Code.quiet_builtin _ Z4, ?_⟩
  have e1 : rawInt ((i : Int) + 1) = rawInt ((i + 1 : Nat) : Int) := by rw [Int.natCast_add]; rfl
  rw [e1]
  refine ih (i + 1) h2 _ Z1 hi2 (fun b o e => ?_) ?_ ?_
  ·exact (sb2.2 b (fun z => by rw [z, hd0] at e; cases e)).trans ((sb.2 b (fun z => by rw [z, hit0] at e; cases e)).trans (hk _ _ e))
  ·obtain ⟨o, e, r⟩ := st'
   exact ⟨o, (sb2.2 it hne).trans e, r⟩
  ·have e2 : vM (ps.take (i + 1)) = stored (vM (ps.take i)) ps[i].1 ps[i].2 := by
    unfold vM
    rw [take_succ, getElem?_eq_getElem hi2, List.foldl_append]
    rfl
   rw [e2]
   exact hd2
theorem sO {l : Addr} {its : Array Value} {ps : List (K × Value)} {Q : EV} (hl : PlainL s.heap l its) (hlen : its.size = ps.length)
  (hps : ∀ (i : Nat) p, ps[i]? = some p -> ∃ t u, its[i]? = some (.ref t) /\ s.heap.IsTuple t #[u, p.2] /\ knd.is p.1 u = true) (hA : A.handled = none) (hz : ∀ i, (vM (ps.take i)).length <= sizeLine)
  (h : ∀ h' tk d, s.heap.objs.size <= d -> Kept s.heap h' -> h'.DictOf knd d (vM ps) -> Q (.ref d) { s with heap := h', toks := tk }) : wpAny (model prog w) A (call (.type "dict") [.ref l]) Q E s := by
 obtain ⟨ol, nl, hol, hoc, hod, hdat⟩ := id hl
 have hk0 : Kept s.heap (s.heap.push { cls := .type "dict", data := .dict #[] }) := fun b o e => Heap.get?_push_of_some _ e
 refine callType_codes (Q₁ := fun obj s₁ => obj = .ref s.heap.objs.size /\ s₁ = { s with heap := s.heap.push { cls := .type "dict", data := .dict #[] } }) F.kt_called_dict (F.kt_typeCall_dict_1 _) F.entry_dict_init (kt_code_dict_new _ ⟨rfl, rfl⟩) ?_
 rintro obj s₁ ⟨rfl, rfl⟩
 have hnew : (s.heap.push { cls := .type "dict", data := .dict #[] }).DictOf knd s.heap.objs.size [] := Heap.DictOf.new s.heap
 have hlT : ({ s with heap := s.heap.push { cls := .type "dict", data := .dict #[] } } : Shared).TypeIs (.ref l) "list" := ⟨_, hk0 _ _ hol, hoc⟩
 refine ⟨hnew.typeIs, F.args_dict_init_2 _ _, ?_⟩
 unfold Builtin.«dict.__init__»
 refine wpAny_bind ?_
 unfold Builtin.Dict.selfAndRest
 refine wpAny_bind (wpAny_notOrdered_dict hnew.typeIs ?_)
 show wpAny _ _ (pure (s.heap.objs.size, [Value.ref l])) _ _ _
 refine wpAny_pure ?_
 show wpAny _ _ (Builtin.Dict.updateFrom "dict.__init__" s.heap.objs.size (.ref l) [] .none) _ _ _
 unfold Builtin.Dict.updateFrom
 refine wpAny_bind (wpAny_typeOf hlT ?_)
 rw [if_pos Z0]
 refine wpAny_bind (pG (hk0 _ _ hol) hoc hdat hod uv Z4 (show A.in1.in1.handled = none from hA) (fun h1 t1 e hx => ?_) Z4)
 rw [if_pos (show (none : Option Value).isNone = true from rfl)]
 refine wpAny_bind (wpAny_rule ?_)
 refine wpAny_bind (wpAny_pyIter_list (s := { s with heap := h1, toks := t1 }) ⟨ol, hx.keeps _ _ (hk0 _ _ hol), hoc, nl, hdat⟩ ?_)
 refine wpAny_pure ?_
 have hd0 : s.heap.get? s.heap.objs.size = none := Heap.get?_none_of_le (le_refl _)
 have hlt : s.heap.objs.size < h1.objs.size := by
  obtain ⟨o, es, ep, ho, _⟩ := hnew
  exact Heap.lt_size (hx.keeps _ _ ho)
 refine ⟨Code.quiet_builtin _ Z4, ?_⟩
 refine Gu (A := A.in1) (h0 := s.heap) (s0 := s) (it := h1.objs.size) ⟨ol, hol, hoc, nl, hdat⟩ hlen hps (Heap.get?_none_of_le (le_of_lt hlt)) hd0 (ne_of_gt hlt) (show A.in1.handled = none from hA) hz (fun h' tk kp dd => ⟨rfl, h h' tk _ (le_refl _) kp dd⟩) ps.length 0 _ _ Z1 (zero_le _) (fun b o e => Heap.get?_push_of_some _ (hx.keeps _ _ (hk0 _ _ e))) ⟨_, Heap.get?_push_size _ rfl, rfl, rfl⟩ ?_
 obtain ⟨o, es, ep, ho, r⟩ := hnew
 exact ⟨o, es, ep, Heap.get?_push_of_some _ (hx.keeps _ _ ho), r⟩
end
end
def putL (ps : List (Key × V)) : List (Key × V) := ps.foldl (fun kvs p => putK kvs p.1 p.2) []
theorem Dr : ∀ (ps : List (Key × V)) (ts : List (Key × Value)), ps.length = ts.length -> (∀ (i : Nat) p t, ps[i]? = some p -> ts[i]? = some t -> t.1 = p.1 /\ RelV p.2 t.2) -> ∀ (kvs : List (Key × V)) (vs : List (Key × Value)), KV kvs vs -> KV (ps.foldl (fun kvs p => putK kvs p.1 p.2) kvs) (ts.foldl (fun kvs p => stored kvs p.1 p.2) vs)
 | [], [], _, _, _, _, r => r
 | [], _ :: _, h, _, _, _, _ => by cases h
 | _ :: _, [], h, _, _, _, _ => by cases h
 | p :: ps, t :: ts, h, hr, kvs, vs, r => by
  obtain ⟨e1, e2⟩ := hr 0 p t rfl rfl
  rw [foldl_cons, foldl_cons, e1]
  exact Dr ps ts (Nat.succ.inj h) (fun i p t hp ht => hr (i + 1) p t (by simpa using hp) (by simpa using ht)) _ _ (r.put p.1 e2)
theorem Bj : ∀ (ps kvs : List (Key × V)), (ps.foldl (fun kvs p => putK kvs p.1 p.2) kvs).length <= kvs.length + ps.length
 | [], _ => le_refl _
 | p :: ps, kvs => by
  rw [foldl_cons, length_cons]
  have h1 := Bj ps (putK kvs p.1 p.2)
  have h2 := jV kvs p.1 p.2
  omega
section
variable {X : Cx}
theorem Cu (hc : X.calm = true) : jg X (.type "dict") (fun vs H Q => ∃ (l : Addr) (xs : List V) (ps : List (Key × V)), vs = [.ref l] /\ SqL X.K H l xs /\ xs.length = ps.length /\ (∀ (i : Nat) p, ps[i]? = some p -> ∃ t, xs[i]? = some (.ref t) /\ SqT X.K H t [kV p.1, p.2]) /\ ∀ d, H d = none -> Q (.ref d) (upd H d (.dK (putL ps)))) := by
 intro pins s σ H xs us Q I r h
 obtain ⟨l, xs, ps, rfl, hq, hl, hp, q⟩ := h
 obtain ⟨u, rfl, rx⟩ := vals1 r
 cases (show u = Value.ref l from rx)
 obtain ⟨its, rv, pl, hz⟩ := I.list hq
 have hlen := rv.length
 obtain ⟨ts, htl, hts⟩ := Mine.fJ (fun i (p : Key × V) (t : Key × Value) => t.1 = p.1 /\ RelV p.2 t.2 /\ ∃ tt u, its.toArray[i]? = some (.ref tt) /\ s.heap.IsTuple tt #[u, t.2] /\ (cM X.prog X.w).is t.1 u = true) ps 0 fun i p e => by
  obtain ⟨t, e1, ht⟩ := hp i p e
  obtain ⟨u1, eu, ru⟩ := rv.get e1
  cases (show u1 = Value.ref t from ru)
  obtain ⟨tv, rt, pt, _⟩ := I.tuple ht
  obtain ⟨a, b, rfl, ra, rb⟩ := vals2 rt
  exact ⟨(p.1, b), rfl, rb, t, a, by rw [Nat.zero_add]; simpa using eu, pt, Dg ra⟩
 have rel : ∀ (i : Nat) p t, ps[i]? = some p -> ts[i]? = some t -> t.1 = p.1 /\ RelV p.2 t.2 := fun i p t hp ht => by
  obtain ⟨t', e, h1, h2, _⟩ := hts i p hp
  rw [ht] at e
  cases e
  exact ⟨h1, h2⟩
 have kv : ∀ i, KV (putL (ps.take i)) (vM (ts.take i)) := fun i => Dr _ _ (by rw [length_take, length_take, htl]) (fun j p t hp ht => by
  rw [getElem?_take] at hp ht
  split at hp
  ·rename_i hj
   rw [if_pos hj] at ht
   exact rel j p t hp ht
  ·cases hp) [] [] .nil
 have hln : ∀ i, (putL (ps.take i)).length <= sizeLine := fun i => by
  have := Bj (ps.take i) []
  have h2 := length_take_le i ps
  have h3 : (ps.take i).length <= ps.length := by rw [length_take]; omega
  show ((ps.take i).foldl _ []).length <= sizeLine
  simp only [length_nil, Nat.zero_add] at this
  omega
 refine sO (knd := cM X.prog X.w) (ps := ts) pl (by rw [size_toArray]; omega) (fun i t et => ?_) (I.ok.hd hc) (fun i => by rw [<- (kv i).length]; exact hln i) fun h' tk d hd kp dd => ?_
 ·have hi : i < ps.length := by rw [<- htl]; exact (List.getElem?_eq_some_iff.mp et).1
  obtain ⟨t', e, _, _, tt, u, e1, e2, e3⟩ := hts i _ (getElem?_eq_getElem hi)
  rw [et] at e
  cases e
  rw [Nat.zero_add] at e1
  exact ⟨tt, u, e1, e2, e3⟩
 ·have k1 := kv ps.length
  rw [take_length, <- htl, take_length] at k1
  have l1 := hln ps.length
  rw [take_length] at l1
  exact ⟨.ref d, _, I.laid (a := d) (o := .dK (putL ps)) (t' := tk) kp hd (GJ l1 (beq_eq_false_iff_ne.mpr (ne_of_gt (lt_of_lt_of_le I.big hd))) k1 dd), rfl, q d (I.hok.fresh hd)⟩
end
end L2
namespace L2
open PySem PySem.Spec PyProof.Rows
theorem bj {N P : List Str} {s : Scope} (a : s.kind = .function := by rfl) (b : s.isCoroutine = false := by rfl) (c : s.isGenerator = false := by rfl) (d : N.Nodup := by decide +kernel) (e : N.take P.length = P := by rfl) (f : ∀ x ∈ P, s.names.lookup x = some .local \/ s.names.lookup x = some .cell := by decide +kernel) (g : ∀ y ∈ s.names, y.2 ≠ .free := by decide +kernel) : aG N P s := ⟨a, b, c, d, e, f, g⟩
section
variable {P : Program} {w : World} {K : Frag} {mg : Str -> Option Value} {base : Heap} {C : Nat -> Addr} {f : Addr} {fd : FuncData}
theorem Fun.oq {x qual : Str} {st : Stmt} {f : Addr} {fd : FuncData} {N ps : List Str} {k : Nat} {sp : Sp} (F : Fun K x qual st f fd) (S : aG N ps (aB st))
 (hbody : ∀ (cdv : Value) (A : Around) (outer : List Env) (s : Shared) (H : Hp) (vs : List V) (Q : VK) (E : XK), aY k (A.deeper (envOfC qual (aB st) s.heap.objs.size f cdv)) -> sp vs H Q E -> ∃ t, PSs (nT CX0 P w K mg base N qual (aB st) f cdv A outer s H E).nox (bZ st) t /\ t { nx := fun _ H' => Q .non H', rt := Q } (start N vs) H)
 (len : ∀ vs H Q E, sp vs H Q E -> vs.length = ps.length := by intro vs H Q E h; repeat (first | (obtain ⟨rfl, _⟩ := h; rfl) | obtain ⟨_, h⟩ := h)) : aL P w K mg base CX0 (k + 1) f fd ps sp := F.ok S len hbody
theorem Fun.oqX {x qual : Str} {st : Stmt} {f : Addr} {fd : FuncData} {N ps : List Str} {k : Nat} {sp : Sp} (F : Fun K x qual st f fd) (S : aG N ps (aB st))
 (hbody : ∀ (cdv : Value) (A : Around) (outer : List Env) (s : Shared) (H : Hp) (vs : List V) (Q : VK) (E : XK), aY k (A.deeper (envOfC qual (aB st) s.heap.objs.size f cdv)) -> sp vs H Q E -> ∃ t, PSs (nT (CX1 P w) P w K mg base N qual (aB st) f cdv A outer s H E) (bZ st) t /\ t { nx := fun _ H' => Q .non H', rt := Q } (start N vs) H)
 (len : ∀ vs H Q E, sp vs H Q E -> vs.length = ps.length := by intro vs H Q E h; repeat (first | (obtain ⟨rfl, _⟩ := h; rfl) | obtain ⟨_, h⟩ := h)) : aL P w K mg base (CX1 P w) (k + 1) f fd ps sp := F.okX S len hbody
end
end L2
namespace Mine
open PySem PySem.Spec PyProof.Rows L2
theorem cG (zs : List Str) : (zs.map V.str).all dM = true := by
 rw [all_eq_true]; intro v hv; obtain ⟨z, _, rfl⟩ := mem_map.mp hv; rfl
theorem iJ : (("." : Str)).length <= 1 := by decide +kernel
def top (i : Nat) : Stmt := pw_drawhouse_k35_with_and_without.main.body.getD i (.Pass ⟨0, 0, 0, 0⟩)
def JQ : Stmt -> List Stmt
 | .ClassDef _ _ _ b _ _ _ _ _ _ _ => b
 | _ => []
abbrev sb (i j : Nat) : Stmt := (JQ (top i)).getD j (.Pass ⟨0, 0, 0, 0⟩)
abbrev jE : Stmt := top 19
abbrev kj : Stmt := top 20
abbrev jf : Stmt := sb 7 0
abbrev iB : Stmt := sb 3 0
abbrev jq : Stmt := sb 5 0
abbrev lF : Stmt := sb 6 0
abbrev jm : Stmt := sb 8 0
abbrev mV : Stmt := top 10
abbrev jG : Stmt := top 11
abbrev lX : Stmt := top 30
abbrev t6 : Stmt := top 31
abbrev jZ : Stmt := top 14
abbrev lV : Stmt := top 15
abbrev gU : Stmt := top 16
abbrev cT : Stmt := sb 17 0
abbrev cA : Stmt := sb 17 1
abbrev gP : Stmt := sb 17 2
abbrev fQ : Stmt := sb 17 3
abbrev cB : Stmt := sb 17 4
abbrev dm : Stmt := sb 17 5
abbrev gJ : Stmt := sb 22 0
abbrev ik : Stmt := sb 22 1
abbrev qP : Stmt := sb 22 2
abbrev dY : Stmt := sb 23 0
abbrev gZ : Stmt := sb 23 1
abbrev iU : Stmt := sb 23 2
abbrev dw : Stmt := sb 24 0
abbrev gw : Stmt := sb 24 1
abbrev gY : Stmt := sb 24 2
abbrev dD : Stmt := sb 25 0
abbrev gA : Stmt := sb 25 1
abbrev gk : Stmt := sb 25 2
abbrev ie : Stmt := sb 25 3
abbrev dj : Stmt := sb 26 0
abbrev fY : Stmt := sb 26 1
abbrev gf : Stmt := sb 26 2
abbrev gK : Stmt := sb 26 3
abbrev cZ : Stmt := sb 27 0
abbrev fP : Stmt := sb 27 1
abbrev fV : Stmt := sb 27 2
abbrev gQ : Stmt := sb 27 3
abbrev dB : Stmt := sb 28 0
abbrev ig : Stmt := sb 28 1
abbrev dq : Stmt := sb 33 0
abbrev gj : Stmt := sb 33 1
abbrev gO : Stmt := sb 33 3
abbrev m9 : Stmt := top 35
abbrev o8 : Stmt := top 36
abbrev mZ : Stmt := top 37
abbrev jz : Stmt := top 38
abbrev eY : Stmt := top 39
abbrev fU : Stmt := top 40
abbrev jF : Stmt := top 41
abbrev jN : Stmt := top 42
abbrev nD : Stmt := top 43
abbrev o6 : Stmt := top 44
abbrev ju : Stmt := top 45
abbrev mX : Stmt := top 46
abbrev jP : Stmt := top 47
abbrev o5 : Stmt := top 48
abbrev lW : Stmt := top 49
abbrev mQ : Stmt := top 50
abbrev mG : Stmt := top 51
abbrev nj : Stmt := top 52
abbrev jR : Stmt := top 53
abbrev jY : Stmt := top 54
abbrev iY : Stmt := top 55
abbrev Gk : Stmt := top 56
def vo (ns : List Int) (k : Int) : Int := if k < (ns.length : Int) then Builtin.bitAnd (ns.getD k.toNat 0) (1 * 2 ^ (4400 : Int).toNat - 1) else 0
def tR (K : Frag) : Sp := fun vs H Q _ => ∃ (a : Addr) (ns : List Int) (k : Int), vs = [.ref a, .int k] /\ SqL K H a (ns.map V.int) /\ 0 <= k /\ Pur (.int (vo ns k)) H Q
section
variable {P : Program} {w : World} {K : Frag} {mg : MG} {base : Heap}
abbrev rF : List Str := ["_law_script", "_law_k"]
theorem NP : aG ["_law_script", "_law_k"] rF (aB m9) := bj
theorem xF {f : Addr} {fd : FuncData} (F : Fun K "_law_cell" "_law_cell" m9 f fd) (hlen : mg "len" = none) : aL P w K mg base CX0 1 f fd rF (tR K) := by
 refine F.oq NP fun _ _ _ _ H _ Q E hr h => ?_
 ·obtain ⟨a, ns, k, rfl, hS, h0, q⟩ := h
  refine ⟨_, gq (Dq (aH CV (pv 1) (bw bz Z3 hlen boot_len (aj (pv 0) ao)) (aQ _))
    (lZ (pN (aN Ge (bc bI (pv 0) (pv 1)) (aN Nk (aN MP au au) au)))) tW)
   (lZ (pN au)), ?_⟩
  refine ⟨_, rfl, _, rfl, a, _, rfl, .inl hS, _, _, rfl, rfl, _, rfl, ?_⟩
  rw [length_map]
  refine d7 (fun hk => ?_) (fun hk => ?_)
  ·have hk2 : ns[k.toNat]? = some (ns.getD k.toNat 0) := by
    rw [getD_eq_getElem?_getD, getElem?_eq_getElem Z1]
    rfl
   have hk3 : (ns.map V.int)[k.toNat]? = some (V.int (ns.getD k.toNat 0)) := by rw [getElem?_map, hk2]; rfl
   have hat : atI (ns.map V.int) k = some (V.int (ns.getD k.toNat 0)) := by
    have := aF hk3
    rwa [show ((k.toNat : Nat) : Int) = k from by omega] at this
   refine ⟨_, rfl, _, rfl, a, _, _, _, rfl, rfl, hS, hat, _, _, rfl, rfl, ⟨Z0, Z0, Z0⟩, _, _, rfl, rfl, _, _, rfl, rfl, ?_⟩
   have e : vo ns k = Builtin.bitAnd (ns.getD k.toNat 0) (1 * 2 ^ (4400 : Int).toNat - 1) := if_pos hk
   have q' := q H (az.refl H)
   rw [e] at q'
   exact q'
  ·have e : vo ns k = 0 := if_neg hk
   have q' := q H (az.refl H)
   rw [e] at q'
   exact q'
abbrev Ar : List Str := ["_law_cell_here", "_law_j"]
theorem Qk : aG ["_law_cell_here", "_law_j"] Ar (aB o8) := bj
theorem Jb {f : Addr} {fd : FuncData} (F : Fun K "_law_sub" "_law_sub" o8 f fd) : aL P w K mg base CX0 1 f fd Ar Jc := by
 refine F.oq Qk fun _ _ _ _ H _ Q E hr h => ?_
 ·obtain ⟨c, j, rfl, h0, h1, q⟩ := h
  refine ⟨_, gq (Dq (iH (aH cJ (aN ji (pv 0) au) au (aQ _)) (gH (aH rZ (aN yu (pv 0) (aN cN (aN jn au (pv 1)) au)) au (aQ _)))).pt
    (lZ (pN (aN PN (aN yu (pv 0) (aN jn au (pv 1))) au))) tW)
   (lZ (pN (aN jn (aN cN (aN my (aN my (pv 0) au) (aN cN (pv 1) au)) (aN jn au (pv 1))) au))), ?_⟩
  have q' := q H (az.refl H)
  have tail : sub c j = subB c j -> JZ (tOp (rI IV fun i j => .int (i * j)) (tOp (rI0 fun i j => .int (i + j)) (tOp (rI N5 fun i j => .int (i / j)) (tOp (rI N5 fun i j => .int (i / j)) (yE 0) (tC (.int 2))) (tOp (rI0 fun i j => .int (i + j)) (yE 1) (tC (.int 1)))) (tOp (rI IV fun i j => .int (i * j)) (tC (.int 104729)) (yE 1))) (tC (.int 2)))
    { nx := fun _ H' => Q .non H', rt := Q } (start ["_law_cell_here", "_law_j"] [V.int c, V.int j]) H := fun e => by
   rw [e] at q'
   exact ⟨_, rfl, _, _, rfl, rfl, ⟨Z0, Z0⟩, _, rfl, _, _, rfl, rfl, _, _, rfl, rfl, ⟨Z1, Z1⟩, _, rfl, _, _, rfl, rfl, .inl ⟨Z0, Z0⟩, _, _, rfl, rfl, _, _, rfl, rfl, .inr ⟨Z0, Z0⟩, q'⟩
  refine ⟨_, rfl, _, _, rfl, rfl, (by show (0 : Int) < 2; decide), rfl, _, rfl, ?_⟩
  refine Lh (fun hA => ?_) (fun hA => ?_)
  ·refine ⟨_, rfl, _, rfl, _, _, rfl, rfl, .inl ⟨Z0, Z0⟩, _, _, rfl, rfl, _, _, rfl, rfl, (by show (0 : Int) <= 480 * j + 400; omega), _, _, rfl, rfl, _, rfl, ?_⟩
   refine d7 (fun hB => ?_) (fun hB => ?_)
   ·have e : sub c j = Qq c j := if_pos ⟨hA, hB⟩
    rw [e] at q'
    exact ⟨_, rfl, _, rfl, _, _, rfl, rfl, .inl ⟨Z0, Z0⟩, _, _, rfl, rfl, (by show (0 : Int) <= 480 * j; omega), _, _, rfl, rfl, q'⟩
   ·exact tail (if_neg fun z => hB z.2)
  ·refine iR ?_
   exact tail (if_neg fun z => hA z.1)
abbrev jo : List Str := ["_law_cell_here", "_law_k", "_law_many"]
theorem rJ : aG ["_law_cell_here", "_law_k", "_law_many", "_law_great", "_law_by", "_law_one"] jo (aB mZ) := bj
theorem jy {f : Addr} {fd : FuncData} (F : Fun K "_law_pick" "_law_pick" mZ f fd) : aL P w K mg base CX0 1 f fd jo mL := by
 refine F.oq rJ fun _ _ _ _ H _ Q E hr h => ?_
 ·obtain ⟨c, k, m, rfl, h0, h1, hm, q⟩ := h
  refine ⟨_, gq (Dq (iH (aH cJ (aN ji (pv 0) au) au (aQ _)) (gH (aH rZ (aN yu (pv 0) au) au (aQ _)))).pt
    (lZ (pN (aN ji (aN Ge (aN yu (pv 0) (aN cN au (aN jn au (pv 1)))) au) (pv 2)))) tW)
   (gq (pR (i := 3) rJ.nd rfl (Or.inl rfl) au)
   (gq (pR (i := 4) rJ.nd rfl (Or.inl rfl) (bc bI (bM (aj au (aj au (aj au (aj au (aj au (aj au (aj au (aj au ao))))))))) (aN ji (pv 1) au)))
   (gq (pR (i := 4) rJ.nd rfl (Or.inl rfl) (aN jn (pv 4) (bc bI (bM (aj au (aj au (aj au (aj au (aj au ao)))))) (aN my (pv 1) au))))
   (gq (pR (i := 5) rJ.nd rfl (Or.inl rfl) (aN ji (aN jn (aN cN (aN ji (aN my (pv 0) au) (pv 3)) au) (pv 4)) (pv 3)))
   (gq (pR (i := 5) rJ.nd rfl (Or.inl rfl) (aN ji (aN jn (pv 5) (pv 5)) au))
   (lZ (pN (aN ji (aN my (aN ji (aN jn (aN cN (aN cN (pv 5) (pv 1)) au) (aN cN (aN my (pv 5) au) au)) au) au) (pv 2))))))))), ?_⟩
  obtain ⟨t1, t2, t3⟩ := Jl (k := k % 8) Z1 Z1
  obtain ⟨u1, u2, u3⟩ := Kd (k := k / 8) Z1 Z1
  have a8 : atI (qt.map V.int) (k % 8) = some (V.int (qt.getD (k % 8).toNat 0)) := by
   have := aF (xs := qt.map V.int) (j := (k % 8).toNat) (by rw [getElem?_map, t1]; rfl)
   rwa [show (((k % 8).toNat : Nat) : Int) = k % 8 from by omega] at this
  have a5 : atI (qL.map V.int) (k / 8) = some (V.int (qL.getD (k / 8).toNat 0)) := by
   have := aF (xs := qL.map V.int) (j := (k / 8).toNat) (by rw [getElem?_map, u1]; rfl)
   rwa [show (((k / 8).toNat : Nat) : Int) = k / 8 from by omega] at this
  have g1 := JC c k
  have g2 := Ka c k
  have g3 := JH c k
  have g4 := Jz c k
  have ms := Fz t2 t3 u2 u3
  refine ⟨_, rfl, _, _, rfl, rfl, (by show (0 : Int) < 2; decide), rfl, _, rfl, ?_⟩
  refine Lh (fun hA => ?_) (fun hA => ?_)
  ·refine ⟨_, rfl, _, _, rfl, rfl, (by show (0 : Int) <= 400; decide), _, _, rfl, rfl, _, rfl, ?_⟩
   refine d7 (fun hB => ?_) (fun hB => ?_)
   ·have e : pick c k m = K4 c k m := if_pos ⟨hA, hB⟩
    have q' := q H (az.refl H)
    rw [e] at q'
    exact ⟨_, rfl, _, rfl, _, _, rfl, rfl, .inl ⟨Z0, Z0⟩, _, _, rfl, rfl, _, _, rfl, rfl, (by show (0 : Int) <= 1 + 10 * k; omega), _, _, rfl, rfl, _, rfl, _, _, rfl, rfl, hm, q'⟩
   ·have e : pick c k m = Jj c k m := if_neg fun z => hB z.2
    refine ⟨by show 8 <= sizeLine; decide, fun p hp => ?_⟩
    refine ⟨_, rfl, _, _, rfl, rfl, (by show (0 : Int) < 8; decide), p, qt.map V.int, _, _, rfl, rfl, SqL.of ak, a8, ?_⟩
    refine ⟨_, rfl, (by show 5 <= sizeLine; decide), fun p2 hp2 => ?_⟩
    refine ⟨_, rfl, _, _, rfl, rfl, ⟨Z0, Z0⟩, p2, qL.map V.int, _, _, rfl, rfl, SqL.of ak, a5, _, _, rfl, rfl, .inl ⟨Z1, Z1⟩, ?_⟩
    refine ⟨_, rfl, _, _, rfl, rfl, ⟨Z0, Z0⟩, _, rfl, _, _, rfl, rfl, (by show (0 : Int) < 2305843009213693951; decide), _, _, rfl, rfl, _, rfl, _, _, rfl, rfl, .inr ⟨Z1, Z1⟩, _, rfl, _, _, rfl, rfl, (by show (0 : Int) < 2305843009213693951; decide), ?_⟩
    refine ⟨_, rfl, _, rfl, _, _, rfl, rfl, .inl ⟨(by show -(2 ^ 64) < Ah c k; omega), (by show Ah c k < 2 ^ 64; omega)⟩, _, _, rfl, rfl, (by show (0 : Int) < 1000000000039; decide), ?_⟩
    refine ⟨_, rfl, _, rfl, _, _, rfl, rfl, _, _, rfl, rfl, _, rfl, _, _, rfl, rfl, ⟨Z0, Z0⟩, _, _, rfl, rfl, _, _, rfl, rfl, .inl ⟨(by show -(2 ^ 64) < Bo c k + k + 1; omega), (by show Bo c k + k + 1 < 2 ^ 64; omega)⟩, _, _, rfl, rfl, (by show (0 : Int) < 67280421310721; decide), _, _, rfl, rfl, ⟨Z0, Z0⟩, _, rfl, _, _, rfl, rfl, hm, ?_⟩
    rw [e] at q
    exact q _ ((az.new hp).put hp2)
  ·refine iR ?_
   have e : pick c k m = Jj c k m := if_neg fun z => hA z.1
   refine ⟨by show 8 <= sizeLine; decide, fun p hp => ?_⟩
   refine ⟨_, rfl, _, _, rfl, rfl, (by show (0 : Int) < 8; decide), p, qt.map V.int, _, _, rfl, rfl, SqL.of ak, a8, ?_⟩
   refine ⟨_, rfl, (by show 5 <= sizeLine; decide), fun p2 hp2 => ?_⟩
   refine ⟨_, rfl, _, _, rfl, rfl, ⟨Z0, Z0⟩, p2, qL.map V.int, _, _, rfl, rfl, SqL.of ak, a5, _, _, rfl, rfl, .inl ⟨Z1, Z1⟩, ?_⟩
   refine ⟨_, rfl, _, _, rfl, rfl, ⟨Z0, Z0⟩, _, rfl, _, _, rfl, rfl, (by show (0 : Int) < 2305843009213693951; decide), _, _, rfl, rfl, _, rfl, _, _, rfl, rfl, .inr ⟨Z1, Z1⟩, _, rfl, _, _, rfl, rfl, (by show (0 : Int) < 2305843009213693951; decide), ?_⟩
   refine ⟨_, rfl, _, rfl, _, _, rfl, rfl, .inl ⟨(by show -(2 ^ 64) < Ah c k; omega), (by show Ah c k < 2 ^ 64; omega)⟩, _, _, rfl, rfl, (by show (0 : Int) < 1000000000039; decide), ?_⟩
   refine ⟨_, rfl, _, rfl, _, _, rfl, rfl, _, _, rfl, rfl, _, rfl, _, _, rfl, rfl, ⟨Z0, Z0⟩, _, _, rfl, rfl, _, _, rfl, rfl, .inl ⟨(by show -(2 ^ 64) < Bo c k + k + 1; omega), (by show Bo c k + k + 1 < 2 ^ 64; omega)⟩, _, _, rfl, rfl, (by show (0 : Int) < 67280421310721; decide), _, _, rfl, rfl, ⟨Z0, Z0⟩, _, rfl, _, _, rfl, rfl, hm, ?_⟩
   rw [e] at q
   exact q _ ((az.new hp).put hp2)
end
abbrev jC : List Str := ["kind", "thing"]
theorem rQ : aG ["kind", "thing", "path"] jC (aB jE) := bj
abbrev fK : List Str := ["terms"]
theorem iw : aG ["terms", "shown", "sign", "kind", "thing"] fK (aB kj) := bj
abbrev gG : List Str := ["self", "address"]
theorem Bs : aG ["self", "address"] gG (aB jf) := bj
abbrev iy : List Str := ["self", "at"]
theorem An : aG ["self", "at"] iy (aB iB) := bj
abbrev jc : List Str := ["self", "at"]
theorem Cw : aG ["self", "at"] jc (aB jq) := bj
abbrev lH : List Str := ["self", "at"]
theorem Es : aG ["self", "at"] lH (aB lF) := bj
abbrev je : List Str := ["self", "address"]
theorem CG : aG ["self", "address"] je (aB jm) := bj
abbrev jA : List Str := ["address"]
theorem rY : aG ["address", "names"] jA (aB mV) := bj
abbrev fG : List Str := ["address"]
theorem Ai : aG ["address"] fG (aB jG) := bj
abbrev nF : List Str := ["row"]
theorem pW : aG ["row", "named", "address"] nF (aB lX) := bj
abbrev qF : List Str := ["house", "address"]
theorem qg : aG ["house", "address", "part", "named", "row"] qF (aB t6) := bj
abbrev jD : List Str := ["part", "addresses"]
theorem sr : aG ["part", "addresses", "parent"] jD (aB jZ) := bj
abbrev mC : List Str := ["part", "addresses"]
theorem Bw : aG ["part", "addresses"] mC (aB lV) := bj
abbrev ir : List Str := ["parts"]
theorem il : aG ["parts", "addresses", "at", "part"] ir (aB gU) := bj
abbrev cV : List Str := ["self", "parts"]
theorem vH : aG ["self", "parts"] cV (aB cT) := bj
abbrev b7 : List Str := ["self"]
theorem pI : aG ["self"] b7 (aB cA) := bj
abbrev cO : List Str := ["self", "address"]
theorem yq : aG ["self", "address"] cO (aB gP) := bj
abbrev eN : List Str := ["self", "address"]
theorem pA : aG ["self", "address", "part"] eN (aB fQ) := bj
abbrev dg : List Str := ["self", "part"]
theorem qy : aG ["self", "part"] dg (aB cB) := bj
abbrev dU : List Str := ["self", "address"]
theorem rG : aG ["self", "address"] dU (aB dm) := bj
abbrev m8 : List Str := ["self"]
theorem zg : aG ["self"] m8 (aB gJ) := bj
abbrev nG : List Str := ["self"]
theorem yt : aG ["self"] nG (aB ik) := bj
abbrev Al : List Str := ["self"]
abbrev jM : List Str := ["self", "name", "terms"]
theorem Ba : aG ["self", "name", "terms"] jM (aB dY) := bj
abbrev mK : List Str := ["self"]
theorem yI : aG ["self"] mK (aB gZ) := bj
abbrev oM : List Str := ["self"]
theorem zX : aG ["self"] oM (aB iU) := bj
abbrev iW : List Str := ["self", "name", "terms"]
theorem yh : aG ["self", "name", "terms"] iW (aB dw) := bj
abbrev lB : List Str := ["self"]
theorem vK : aG ["self"] lB (aB gw) := bj
abbrev nJ : List Str := ["self"]
theorem yl : aG ["self"] nJ (aB gY) := bj
abbrev iZ : List Str := ["self", "address", "name"]
theorem xm : aG ["self", "address", "name"] iZ (aB dD) := bj
abbrev km : List Str := ["self"]
theorem vR : aG ["self"] km (aB gA) := bj
abbrev kE : List Str := ["self"]
theorem vV : aG ["self"] kE (aB gk) := bj
abbrev nH : List Str := ["self"]
theorem yM : aG ["self"] nH (aB ie) := bj
abbrev iQ : List Str := ["self", "address", "name"]
theorem ym : aG ["self", "address", "name"] iQ (aB dj) := bj
abbrev kO : List Str := ["self"]
theorem vO : aG ["self"] kO (aB fY) := bj
abbrev kI : List Str := ["self"]
theorem vI : aG ["self"] kI (aB gf) := bj
abbrev m7 : List Str := ["self"]
theorem yg : aG ["self"] m7 (aB gK) := bj
abbrev iT : List Str := ["self", "word", "address", "name"]
theorem yw : aG ["self", "word", "address", "name"] iT (aB cZ) := bj
abbrev lu : List Str := ["self"]
theorem vJ : aG ["self"] lu (aB fP) := bj
abbrev lD : List Str := ["self"]
theorem vL : aG ["self"] lD (aB fV) := bj
abbrev lY : List Str := ["self"]
theorem xP : aG ["self"] lY (aB gQ) := bj
abbrev iV : List Str := ["self", "terms"]
theorem yQ : aG ["self", "terms"] iV (aB dB) := bj
abbrev mz : List Str := ["self"]
theorem yN : aG ["self"] mz (aB ig) := bj
abbrev dW : List Str := ["self", "address", "rows"]
theorem yL : aG ["self", "address", "rows"] dW (aB dq) := bj
abbrev iu : List Str := ["self"]
theorem ph : aG ["self", "names"] iu (aB gj) := bj
abbrev dZ : List Str := ["self"]
theorem zm : aG ["self"] dZ (aB gO) := bj
abbrev tX : List Str := ["_law_cell_here"]
theorem jQ : aG ["_law_cell_here", "_law_letters", "_law_base", "_law_size", "_law_at", "_law_first", "_law_head", "_law_tail"] tX (aB jz) := bj
abbrev jT : List Str := ["_law_cell_here", "_law_many", "_law_words_here"]
theorem dG : aG ["_law_cell_here", "_law_many", "_law_words_here", "_law_found", "_law_k", "_law_above", "_law_parent", "_law_address"] jT (aB eY) := bj
abbrev mY : List Str := ["_law_address"]
theorem uq : aG ["_law_address", "_law_names_here"] mY (aB fU) := bj
abbrev uf : List Str := ["_law_cell_here", "_law_addresses_here", "_law_words_here"]
theorem yG : aG ["_law_cell_here", "_law_addresses_here", "_law_words_here", "_law_address", "_law_word_here"] uf (aB jF) := bj
abbrev qG : List Str := ["_law_cell_here", "_law_known", "_law_addresses_here", "_law_words_here"]
theorem m5 : aG ["_law_cell_here", "_law_known", "_law_addresses_here", "_law_words_here", "_law_sort", "_law_free", "_law_name", "_law_beneath", "_law_one"] qG (aB jN) := bj
abbrev yK : List Str := ["_law_script", "_law_addresses_here", "_law_words_here"]
theorem n8 : aG ["_law_script", "_law_addresses_here", "_law_words_here", "_law_rows_here", "_law_address", "_law_k", "_law_cell_here", "_law_owner", "_law_known"] yK (aB nD) := bj
abbrev wB : List Str := ["_law_row_here"]
theorem vf : aG ["_law_row_here", "_law_sort", "_law_name", "_law_address", "_law_word_here", "_law_terms"] wB (aB o6) := bj
abbrev tQ : List Str := ["_law_addresses_here", "_law_rows_here"]
theorem Kh : aG ["_law_addresses_here", "_law_rows_here"] tQ (aB ju) := bj
abbrev xq : List Str := ["_law_script"]
theorem uG : aG ["_law_script", "_law_words_here", "_law_many", "_law_addresses_here"] xq (aB mX) := bj
abbrev tH : List Str := ["_law_part"]
theorem Jq : aG ["_law_part"] tH (aB jP) := bj
abbrev Dt : List Str := ["_law_some"]
theorem zJ : aG ["_law_some", "_law_known", "_law_at", "_law_address", "_law_name"] Dt (aB o5) := bj
abbrev xu : List Str := ["_law_some", "_law_address"]
theorem Iw : aG ["_law_some", "_law_address", "_law_part"] xu (aB lW) := bj
abbrev yX : List Str := ["_law_e"]
theorem Iz : aG ["_law_e", "_law_found"] yX (aB mQ) := bj
abbrev uP : List Str := ["_law_some"]
theorem NZ : aG ["_law_some"] uP (aB mG) := bj
abbrev yz : List Str := ["_law_house", "_law_part", "_law_address"]
theorem yf : aG ["_law_house", "_law_part", "_law_address", "_law_other_here", "_law_e"] yz (aB nj) := bj
abbrev ue : List Str := ["_law_some", "_law_cell_here", "_law_words_here"]
theorem m6 : aG ["_law_some", "_law_cell_here", "_law_words_here", "_law_known", "_law_one", "_law_word_here", "_law_address", "_law_rows_here"] ue (aB jR) := bj
abbrev t8 : List Str := ["_law_address", "_law_addresses_here", "_law_rows_here"]
theorem mF : aG ["_law_address", "_law_addresses_here", "_law_rows_here", "_law_named", "_law_sort", "_law_name", "_law_asked_here", "_law_word_here"] t8 (aB jY) := bj
abbrev qz : List Str := ["_law_house", "_law_some"]
theorem qO : aG ["_law_house", "_law_some", "_law_rows_here", "_law_addresses_here", "_law_one"] qz (aB iY) := bj
abbrev K9 : List Str := ["_law_script"]
theorem fH : aG ["_law_script", "_law_words_here", "_law_addresses_here", "_law_rows_here", "_law_some", "_law_house", "_law_k", "_law_cell_here", "_law_part", "_law_gone", "_law_due_here", "_law_changed", "_law_other_here", "_law_told"] K9 (aB Gk) := bj
section
variable {P : Program} {w : World} {K : Frag} {mg : MG} {base : Heap}
def xU : Sp := fun vs H Q _ => ∃ (l : Addr) (ts : List Trm), vs = [.ref l] /\ nR H l ts /\ yD ts /\ Pur (.str (textOf ts)) H Q
def DR (K : Frag) : Sp := fun vs H Q _ => ∃ (a : Addr) (ns : List Int), vs = [.ref a] /\ SqL K H a (ns.map V.int) /\ ns.length <= 63 /\ ∀ H', Q (.bl true) H'
theorem iM : 1000 <= sizeLine := by decide
def xY : Sp := fun vs H Q _ => ∃ (x : V) (th : Thg), vs = [.str (kindOf th), x] /\ G7 H x th /\ BK th /\ Pur (.str (wordOf th)) H Q
theorem QL {c : Bool} {x y : V} {σ : L2.St} {H : Hp} {Q : VK} (h : Q (if c = true then x else y) H) : if c = true then tC x σ H Q else tC y σ H Q := by cases c <;> exact h
theorem Mx (s : Int) : (if decide (V.int s = V.int 1) = true then V.str "+" else V.str "-") = V.str (sgw s) := by
 unfold sgw
 by_cases h : s = 1
 ·rw [decide_eq_true (congrArg V.int h), if_pos h]; rfl
 ·rw [decide_eq_false (fun e => h (V.int.inj e)), if_neg h]; rfl
theorem Fe (ts : List Trm) : Txt.join (" " : Str) (wordsOf ts) = textOf ts := by
 rw [blank_eq]
 exact StrLaws.glued_eq_join _ _
theorem Ik : ((" " : Str)).length = 1 := by decide +kernel
def yj (C : Nat -> Addr) (i : Nat) : Sp := fun vs H Q _ => ∃ (x dx : Addr) (r : bV) (d : Addr), vs = [.ref x, .str r.nm, .ref d] /\ r.so = i /\ H x = some (.ins (C i) dx []) /\ nR H d r.ts /\ r.ts.length <= 10 /\
 ∀ l H', H l = none -> SameBut x H H' -> d8 C H' x l r -> Q .non H'
def xG (C : Nat -> Addr) (i : Nat) : Sp := fun vs H Q _ => ∃ (x dx : Addr) (r : bV), vs = [.ref x, .str r.ad, .str r.nm] /\ r.so = i /\ H x = some (.ins (C i) dx []) /\ ∀ H', SameBut x H H' -> (∀ l, d8 C H' x l r) -> Q .non H'
def G6 (C : Nat -> Addr) : Sp := fun vs H Q _ => ∃ (x dx : Addr) (r : bV), vs = [.ref x, .str r.wd, .str r.ad, .str r.nm] /\ r.so = 4 /\ H x = some (.ins (C 4) dx []) /\ ∀ H', SameBut x H H' -> (∀ l, d8 C H' x l r) -> Q .non H'
def FW (C : Nat -> Addr) : Sp := fun vs H Q _ => ∃ (x dx : Addr) (r : bV) (d : Addr), vs = [.ref x, .ref d] /\ r.so = 5 /\ H x = some (.ins (C 5) dx []) /\ nR H d r.ts /\ r.ts.length <= 10 /\
 ∀ l H', H l = none -> SameBut x H H' -> d8 C H' x l r -> Q .non H'
def GZ : Sp := fun vs H Q _ => ∃ v : V, vs = [v] /\ Pur (.str "") H Q
def xK : Sp := fun vs H Q _ => ∃ v : V, vs = [v] /\ ∀ b H', H b = none -> az H H' -> H' b = some (.lst []) -> Q (.ref b) H'
def spB (C : Nat -> Addr) (i : Nat) : Sp := fun vs H Q _ => ∃ (a l : Addr) (r : bV), vs = [.ref a] /\ r.so = i /\ d8 C H a l r /\ Pur (.str r.nm) H Q
def spA (C : Nat -> Addr) (i : Nat) : Sp := fun vs H Q _ => ∃ (a l : Addr) (r : bV), vs = [.ref a] /\ r.so = i /\ d8 C H a l r /\ ∀ b H', H b = none -> az H H' -> H' b = some (.lst [.str r.ad]) -> Q (.ref b) H'
def spS (C : Nat -> Addr) (i : Nat) : Sp := fun vs H Q _ => ∃ (a l : Addr) (r : bV), vs = [.ref a] /\ r.so = i /\ d8 C H a l r /\ GoodR r /\ Pur (.str (bQ r)) H Q
structure Pg (K : Frag) (C : Nat -> Addr) : Prop where
 c : ∀ i, i <= 6 -> RCl K (C i)
 kit : ∀ i j, i <= 6 -> j <= 6 -> kitOne K (.ref (C i)) (.ref (C j)) = some (sJ i j)
 nn : ∀ i, i <= 6 -> bW K (C i) "name"
 nt : ∀ i, i <= 6 -> bW K (C i) "terms"
 na : ∀ i, i <= 6 -> bW K (C i) "address"
 nw : ∀ i, i <= 6 -> bW K (C i) "word"
theorem Dz {z : Str} (h : (decide (1 <= z.length) && decide (z.length <= 8) && z.cps.toList.all fun n => decide (97 <= n) && decide (n <= 122)) = true) : cQ z := by
 simp only [and_eq_true, decide_eq_true_eq, all_eq_true] at h
 exact ⟨h.1.1, h.1.2, fun n hn => h.2 n hn⟩
theorem LK {xs : List V} {ys : List Str} (hl : ys.length = xs.length) (h : ∀ (i : Nat) v, xs[i]? = some v -> ∃ z, ys[i]? = some z /\ v = .str z) : xs = ys.map V.str := by
 apply List.ext_getElem?
 intro i
 rw [getElem?_map]
 cases e : xs[i]? with
 | none =>
  have e2 : ys[i]? = none := by
   rw [List.getElem?_eq_none_iff] at e ⊢
   omega
  rw [e2]; rfl
 | some v =>
  obtain ⟨z, ez, rfl⟩ := h i v e
  rw [ez]; rfl
theorem HB {xs : List V} (h : ∀ (i : Nat) v, xs[i]? = some v -> ∃ z, v = V.str z /\ cQ z) : ∃ ys : List Str, ys.length = xs.length /\ xs = ys.map V.str /\ ∀ y ∈ ys, cQ y := by
 obtain ⟨ys, hyl, hys⟩ := fJ (fun _ v z => v = V.str z /\ cQ z) xs 0 (fun i v e => h i v e)
 refine ⟨ys, hyl, LK hyl fun i v e => ?_, fun y hy => ?_⟩
 ·obtain ⟨z, ez, rz, _⟩ := hys i v e
  exact ⟨z, ez, rz⟩
 ·obtain ⟨i, hi, e⟩ := getElem_of_mem hy
  have hx : xs[i]? = some (xs[i]'Z1) := getElem?_eq_getElem Z1
  obtain ⟨z, ez, _, nz⟩ := hys i _ hx
  rw [getElem?_eq_getElem hi, e] at ez
  cases ez
  exact nz
theorem sF (i j : Nat) (h : sJ i j = false := by rfl) (hi : i <= 5 := by decide) (hj : j <= 5 := by decide) : decide (V.str (jH i) = V.str (jH j)) = false := (HJ hi hj).trans h
theorem sT (i : Nat) : decide (V.str (jH i) = V.str (jH i)) = true := decide_eq_true rfl
theorem six {n : Nat} (h : n <= 5) : n = 0 \/ n = 1 \/ n = 2 \/ n = 3 \/ n = 4 \/ n = 5 := by
 cases n with
 | zero => exact .inl rfl
 | succ n => cases n with
  | zero => exact .inr (.inl rfl)
  | succ n => cases n with
   | zero => exact .inr (.inr (.inl rfl))
   | succ n => cases n with
    | zero => exact .inr (.inr (.inr (.inl rfl)))
    | succ n => cases n with
     | zero => exact .inr (.inr (.inr (.inr (.inl rfl))))
     | succ n => cases n with
      | zero => exact .inr (.inr (.inr (.inr (.inr rfl))))
      | succ n => exact absurd h Z1
def dal : List V := [V.str "draw", V.str "late", V.str "take"]
theorem bu {H : Hp} {C x dx : Addr} (hx : H x = none) (hdx : H dx = none) : az H (upd (upd H dx (.own x)) x (.ins C dx [])) := fun b o e => by
 rw [aK (aD e hx), aK (aD e hdx)]
 exact e
structure Q5 (K : Frag) (C : Addr) : Prop where
 cl : RCl K C
 na : bW K C "address"
 nr : bW K C "rows"
 kit : kitOne K (.ref C) (.ref C) = some true
structure lC (rs : List bV) : Prop where
 hi : rs.length <= 12
 ok : ∀ r ∈ rs, GoodR r
theorem lC.at {rs : List bV} (g : lC rs) {i : Nat} {r : bV} (h : rs[i]? = some r) : GoodR r := g.ok r (mem_of_getElem? h)
def rH (C : Nat -> Addr) (H : Hp) (l : Addr) (rs : List bV) : Prop := ∃ xs : List V, H l = some (.lst xs) /\ xs.length = rs.length /\ ∀ (i : Nat) r, rs[i]? = some r -> ∃ a t, xs[i]? = some (.ref a) /\ d8 C H a t r
theorem rH.same {C : Nat -> Addr} {H H' : Hp} {l : Addr} {rs : List bV} (h : rH C H l rs) (s : az H H') : rH C H' l rs := by
 obtain ⟨xs, hl, hn, hx⟩ := h
 refine ⟨xs, s _ _ hl, hn, fun i r e => ?_⟩
 obtain ⟨a, t, e2, ra⟩ := hx i r e
 exact ⟨a, t, e2, ra.same s⟩
def cY (C : Nat -> Addr) (H : Hp) (p : Addr) (ad : Str) (l : Addr) (rs : List bV) : Prop := ∃ dx fs, H p = some (.ins (C 7) dx fs) /\ fs.lookup ("address" : Str) = some (.str ad) /\ fs.lookup ("rows" : Str) = some (.ref l) /\
 fs.lookup ("bound" : Str) = none /\ fs.lookup ("place_of" : Str) = none /\ fs.lookup ("text" : Str) = none /\ rH C H l rs
theorem cY.same {C : Nat -> Addr} {H H' : Hp} {p : Addr} {ad : Str} {l : Addr} {rs : List bV} (h : cY C H p ad l rs) (s : az H H') : cY C H' p ad l rs := by
 obtain ⟨dx, fs, e, a1, a2, a3, a4, a5, r⟩ := h
 exact ⟨dx, fs, s _ _ e, a1, a2, a3, a4, a5, r.same s⟩
theorem nR.but {H H' : Hp} {l x C dx : Addr} {ts : List Trm} {fs : List (Str × V)} (h : nR H l ts) (hx : H x = some (.ins C dx fs)) (s : SameBut x H H') : nR H' l ts := by
 obtain ⟨xs, hl, hn, ht⟩ := h
 refine ⟨xs, s _ _ hl (pq hl hx Z7), hn, fun i v e => ?_⟩
 obtain ⟨t, et, tm⟩ := ht i v e
 exact ⟨t, et, tm.but hx s⟩
theorem d8.but {C : Nat -> Addr} {H H' : Hp} {a t x D dx : Addr} {r : bV} (h : d8 C H a t r) (g : GoodR r) (hx : H x = some (.ins D dx [])) (s : SameBut x H H') : d8 C H' a t r := by
 obtain ⟨dy, fs, e, f⟩ := h
 have ne : a ≠ x := fun z => by
  rw [z, hx] at e
  cases e
  rcases lt_or_ge r.so 5 with k | k
  ·exact absurd (f.nm k) Z7
  ·exact absurd (f.tm (.inr (.inr (Nat.le_antisymm g.so k)))).1 Z7
 exact ⟨dy, fs, s _ _ e ne, f.nm, fun k => ⟨(f.tm k).1, (f.tm k).2.but hx s⟩, f.ad, f.wd, f.nb, f.na, f.ns⟩
def isE (v : V) : Bool := !decide (v = .str "")
def uW (rs : List bV) : List V := (rs.map fun r => V.str r.nm).filter isE
theorem zR : (("part " : Str)).length = 5 := by decide +kernel
def zW (ad : Str) (rs : List bV) : Str := Txt.join ("\n" : Str) (("part " ++ ad) :: rs.map bQ)
theorem My : (("\n" : Str)).length = 1 := by decide +kernel
theorem GK {ad : Str} {rs : List bV} (g : lC rs) (h : ad.length <= 36) : ∀ y ∈ ("part " ++ ad) :: rs.map bQ, y.length <= 1000 := fun y hy => by
 cases hy with
 | head => rw [lz, zR]; omega
 | tail _ hy =>
  obtain ⟨r, hr, rfl⟩ := mem_map.mp hy
  exact Hh (g.ok r hr)
theorem BX {ad : Str} {rs : List bV} (g : lC rs) (h : ad.length <= 36) : ((("part " ++ ad) :: rs.map bQ).map (·.length)).sum + (("part " ++ ad) :: rs.map bQ).length * (("\n" : Str)).length <= 16777216 := by
 have h1 := nq (GK g h)
 have h2 : (("part " ++ ad) :: rs.map bQ).length <= 13 := by rw [length_cons, length_map]; exact Nat.succ_le_succ g.hi
 rw [My]
 omega
def yd (C : Nat -> Addr) : Sp := fun vs H Q _ => ∃ (x dx : Addr) (ad : Str) (d : Addr) (rs : List bV), vs = [.ref x, .str ad, .ref d] /\ H x = some (.ins (C 7) dx []) /\ rH C H d rs /\ lC rs /\
 ∀ l H', H l = none -> SameBut x H H' -> cY C H' x ad l rs -> Q .non H'
def DG (C : Nat -> Addr) : Sp := fun vs H Q _ => ∃ (p : Addr) (ad : Str) (l : Addr) (rs : List bV), vs = [.ref p] /\ cY C H p ad l rs /\ lC rs /\ ∀ b H', H b = none -> az H H' -> H' b = some (.lst (uW rs)) -> Q (.ref b) H'
def tO (C : Nat -> Addr) : Sp := fun vs H Q _ => ∃ (p : Addr) (ad : Str) (l : Addr) (rs : List bV), vs = [.ref p] /\ cY C H p ad l rs /\ lC rs /\ ad.length <= 36 /\ Pur (.str (zW ad rs)) H Q
theorem Gz {x : Str} {xs : List V} (h : ∀ v ∈ xs, ∃ z, v = .str z /\ z ≠ x) : inV (.str x) xs = false := by
 unfold inV
 rw [List.any_eq_false]
 intro v hv k
 obtain ⟨z, rfl, hz⟩ := h v hv
 exact hz (by simpa [eqV] using k)
theorem zB {K : Frag} {H : Hp} {n : Nat} {v : V} (h : dM v = true \/ ∃ p, v = .ref p) : DEq K H n v v := by
 rcases h with h | ⟨p, rfl⟩
 ·cases v with
  | non => exact .non
  | bl b => exact .bl b
  | int i => exact .int i
  | str x => exact .str x
  | _ => cases h
 ·exact .same p
theorem qR {K : Frag} {H : Hp} {a b : Addr} {xs : List V} (ha : H a = some (.lst xs)) (hb : H b = some (.lst xs)) (h : ∀ v ∈ xs, dM v = true \/ ∃ p, v = .ref p) : DSq K H a b :=
 ⟨0, xs, xs, Z0, rfl, .inr ⟨SqL.of ha, SqL.of hb⟩, fun i x y ex ey => by rw [ex] at ey; cases ey; exact zB (h x (mem_of_getElem? ex))⟩
structure QX (K : Frag) (C : Addr) : Prop where
 cl : RCl K C
 nt : bW K C "told"
structure aU where
 ad : List Str
 rs : List bV
def adS (ps : List aU) : List Str := ps.map fun p => dotted p.ad
structure lK (p : aU) : Prop where
 ad : bO p.ad
 rs : lC p.rs
def qQ (C : Nat -> Addr) (H : Hp) (l : Addr) (ps : List aU) : Prop := ∃ xs : List V, H l = some (.lst xs) /\ xs.length = ps.length /\ ∀ (i : Nat) p, ps[i]? = some p -> ∃ a lr, xs[i]? = some (.ref a) /\ cY C H a (dotted p.ad) lr p.rs
theorem qQ.same {C : Nat -> Addr} {H H' : Hp} {l : Addr} {ps : List aU} (h : qQ C H l ps) (s : az H H') : qQ C H' l ps := by
 obtain ⟨xs, hl, hn, hx⟩ := h
 refine ⟨xs, s _ _ hl, hn, fun i r e => ?_⟩
 obtain ⟨a, t, e2, ra⟩ := hx i r e
 exact ⟨a, t, e2, ra.same s⟩
structure bH (ps : List aU) : Prop where
 hi : ps.length <= 12
 ok : ∀ p ∈ ps, lK p
 nd : (adS ps).Nodup
 up : ∀ p ∈ ps, p.ad.dropLast = [] \/ dotted p.ad.dropLast ∈ adS ps
 cl : ∀ p ∈ ps, ∀ r ∈ p.rs, r.nm ≠ "" -> dotted p.ad ++ "." ++ r.nm ∉ adS ps
theorem bH.at {ps : List aU} (g : bH ps) {i : Nat} {p : aU} (h : ps[i]? = some p) : lK p := g.ok p (mem_of_getElem? h)
def cC (C : Nat -> Addr) (H : Hp) (h l : Addr) (ps : List aU) : Prop := ∃ dx fs, H h = some (.ins (C 8) dx fs) /\ fs.lookup ("told" : Str) = some (.ref l) /\ fs.lookup ("addresses" : Str) = none /\ fs.lookup ("has" : Str) = none /\ (fs.lookup ("part" : Str) = none /\ fs.lookup ("with_part" : Str) = none /\ fs.lookup ("without" : Str) = none) /\ qQ C H l ps
theorem cC.same {C : Nat -> Addr} {H H' : Hp} {h l : Addr} {ps : List aU} (x : cC C H h l ps) (s : az H H') : cC C H' h l ps := by
 obtain ⟨dx, fs, e, a1, a2, a3, a4, r⟩ := x
 exact ⟨dx, fs, s _ _ e, a1, a2, a3, a4, r.same s⟩
def fu (ys : List Str) : Str := if ys.dropLast = [] then "" else dotted ys.dropLast
theorem cL (b : Str) : dotted [b] = b := by rw [cH]; rfl
theorem N8 {ys : List Str} (g : bO ys) : (Txt.rpartition (dotted ys) ("." : Str)).1 = fu ys := by
 unfold fu
 obtain ⟨xs, b, rfl⟩ : ∃ xs b, ys = xs ++ [b] := ⟨ys.dropLast, ys.getLast g.lo, (List.dropLast_concat_getLast g.lo).symm⟩
 rw [List.dropLast_concat]
 have hb : cQ b := g.nm b Z2
 by_cases h : xs = []
 ·subst h
  rw [if_pos rfl, nil_append, cL, Ex b hb]
  rfl
 ·rw [if_neg h, uN xs b h hb]
def qm : Sp := fun vs H Q _ => ∃ ys : List Str, vs = [.str (dotted ys)] /\ bO ys /\ Pur (.str (fu ys)) H Q
def mU (C : Nat -> Addr) (H : Hp) (xs : List V) (ps : List aU) : Prop := xs.length = ps.length /\ ∀ (i : Nat) p, ps[i]? = some p -> ∃ a lr, xs[i]? = some (.ref a) /\ cY C H a (dotted p.ad) lr p.rs
theorem mU.same {C : Nat -> Addr} {H H' : Hp} {xs : List V} {ps : List aU} (h : mU C H xs ps) (s : az H H') : mU C H' xs ps := ⟨h.1, fun i p e => by
 obtain ⟨a, lr, e2, pa⟩ := h.2 i p e
 exact ⟨a, lr, e2, pa.same s⟩⟩
def Ec (C : Nat -> Addr) (H : Hp) (h l : Addr) : Prop := ∃ dx fs, H h = some (.ins (C 8) dx fs) /\ fs.lookup ("told" : Str) = some (.ref l) /\ fs.lookup ("addresses" : Str) = none /\ fs.lookup ("has" : Str) = none /\ (fs.lookup ("part" : Str) = none /\ fs.lookup ("with_part" : Str) = none /\ fs.lookup ("without" : Str) = none)
theorem lU {C : Nat -> Addr} {H : Hp} {h l : Addr} {xs : List V} {ps : List aU} (hd : Ec C H h l) (hl : H l = some (.lst xs)) (px : mU C H xs ps) : cC C H h l ps := by
 obtain ⟨dx, fs, e, a1, a2, a3, a4⟩ := hd
 exact ⟨dx, fs, e, a1, a2, a3, a4, xs, hl, px.1, px.2⟩
def yR (C : Nat -> Addr) : Sp := fun vs H Q _ => ∃ (h l : Addr) (ps : List aU), vs = [.ref h] /\ cC C H h l ps /\ bH ps /\ ∀ b H' zs, H b = none -> az H H' -> zs.Perm (adS ps) -> sortedS zs = true -> H' b = some (.lst (zs.map V.str)) -> Q (.ref b) H'
def uF (C : Nat -> Addr) : Sp := fun vs H Q _ => ∃ (h l : Addr) (ps : List aU) (z : Str), vs = [.ref h, .str z] /\ cC C H h l ps /\ bH ps /\ Pur (.bl (decide (z ∈ adS ps))) H Q
theorem QF {ps : List aU} {i : Nat} (hi : i < ps.length) : ((adS ps).map V.str).getD i .non = V.str (dotted ps[i].ad) := by simp [adS, List.getD, hi]
theorem Ea {ps : List aU} {n : Nat} (hn : n = ps.length) : (List.range n).map (fun i => ((adS ps).map V.str).getD i .non) = (adS ps).map V.str := by
 apply ext_getElem
 ·simp [adS, hn]
 ·intro i h1 h2
  have : i < ps.length := by simpa [adS] using h2
  simp [adS, this]
theorem FT {ps : List aU} (nd : (adS ps).Nodup) {i : Nat} {p : aU} (h : ps[i]? = some p) : inV (.str (dotted p.ad)) (((adS ps).take i).map V.str) = false := Gz fun v hv => by
 obtain ⟨z, hz, rfl⟩ := mem_map.mp hv
 refine ⟨z, rfl, fun e => ?_⟩
 obtain ⟨j, hj, ej⟩ := getElem_of_mem hz
 have hji : j < i := lt_of_lt_of_le hj (length_take_le i _)
 have e1 : (adS ps)[i]? = some (dotted p.ad) := by unfold adS; rw [getElem?_map, h]; rfl
 have e2 : (adS ps)[j]? = some z := by
  have : ((adS ps).take i)[j]? = some z := by rw [getElem?_eq_getElem hj, ej]
  rw [getElem?_take] at this
  simpa [hji] using this
 have hl := (List.getElem?_eq_some_iff.mp e2).1
 exact absurd ((getElem?_inj hl nd).mp (by rw [e1, e2, e])) (ne_of_lt hji)
theorem vG {a b : Str} (ha : a.length <= 1000) (hb : b.length <= 6000) : (a ++ b).length <= sizeLine := by
 rw [lz, sizeLine_eq]; omega
def zr (C : Addr) (g : Str) : Sp := fun vs H Q _ => ∃ x y, vs = [.ref x, y] /\ H x = some (ExO true x C none) /\ (∃ z : Str, y = .str z /\ z.length <= 1000) /\ ∀ p, H p = none -> p ≠ x -> Q .non (upd (upd H p (XdO p [(g, y)])) x (ExO true x C (some p)))
def Ao (C : Nat -> Addr) (H : Hp) (x : Addr) (z : Str) : Prop := ∃ q, H x = some (ExO false x (C 21) (some q)) /\ H q = some (XdO q [("address", .str z)])
def yo (C : Nat -> Addr) : Sp := fun vs H Q E => ∃ (h l : Addr) (ps : List aU) (z : Str), vs = [.ref h, .str z] /\ cC C H h l ps /\ bH ps /\ z.length <= 1000 /\
 (∀ (i : Nat) p a lr H', az H H' -> ps[i]? = some p -> dotted p.ad = z -> cY C H' a (dotted p.ad) lr p.rs -> Q (.ref a) H') /\ (z ∉ adS ps -> ∀ x H', az H H' -> Ao C H' x z -> E (.ref x) none H')
theorem fO {X : Cx} {K : Frag} (h : X.K = K) : jg X (.builtin "isinstance") (HH K) := by subst h; exact Bu
theorem nW {X : Cx} {K : Frag} {e : Expr} {f : Str} {pos : Pos} {ta : TE} (h : X.K = K) (he : PE X e ta) (hb : attributeBase e f X.env (eval e X.env) = eval e X.env) : PE X (.Attribute e f pos) (Ld K ta f) := by subst h; exact J2 he hb
def lt1 (b : Int) : Str := ⟨#[97 + b.toNat]⟩
theorem MF {xs : List V} (h : ∀ (i : Nat) v, xs[i]? = some v -> ∃ b : Int, v = V.str (lt1 b) /\ 0 <= b /\ b < 26) : ∃ bs : List Int, bs.length = xs.length /\ xs = (bs.map lt1).map V.str /\ xH bs := by
 obtain ⟨bs, hl, hb⟩ := fJ (fun _ v b => v = V.str (lt1 b) /\ 0 <= b /\ b < 26) xs 0 (fun i v e => h i v e)
 have em : xs = (bs.map lt1).map V.str := by
  apply List.ext_getElem?
  intro i
  rw [getElem?_map, getElem?_map]
  cases e : xs[i]? with
  | none =>
   have e2 : bs[i]? = none := by
    rw [List.getElem?_eq_none_iff] at e ⊢
    omega
   rw [e2]; rfl
  | some v =>
   obtain ⟨z, ez, rfl, _⟩ := hb i v e
   rw [ez]; rfl
 refine ⟨bs, hl, em, fun b hb' => ?_⟩
 obtain ⟨i, hi, e⟩ := getElem_of_mem hb'
 obtain ⟨z, ez, _, nz⟩ := hb i _ (getElem?_eq_getElem Z1)
 rw [getElem?_eq_getElem hi, e] at ez
 cases ez
 exact nz
theorem qu (zs : List Str) {k : Int} (h : 0 <= k) : fc (zs.map V.str) none (some k) = (zs.take k.toNat).map V.str := by
 have e := Cg (zs.map V.str) k.toNat
 rw [show ((k.toNat : Nat) : Int) = k from by omega] at e
 rw [e, map_take]
theorem JV (zs : List Str) {a b : Int} (h0 : 0 <= a) (h1 : 0 <= b) (ha : a.toNat <= zs.length) (hb : b.toNat <= zs.length) : fc (zs.map V.str) (some a) (some b) = ((zs.drop a.toNat).take (b.toNat - a.toNat)).map V.str := by
 unfold fc
 have e1 := HT.sIx_nat (zs.map V.str).length 0 a.toNat
 have e2 := HT.sIx_nat (zs.map V.str).length (zs.map V.str).length b.toNat
 rw [show ((a.toNat : Nat) : Int) = a from by omega] at e1
 rw [show ((b.toNat : Nat) : Int) = b from by omega] at e2
 rw [e1, e2, length_map, Nat.min_eq_left ha, Nat.min_eq_left hb, map_take, List.map_drop]
theorem u9 (ks : List Int) : Txt.join ("" : Str) (ks.map lt1) = oh ks := Jo ks
theorem vC {ks : List Int} (h : ks.length <= 8) : ((ks.map lt1).map (·.length)).sum + (ks.map lt1).length * (("" : Str)).length <= 16777216 := Cd h
theorem M3 {as bs : List Int} {c : Int} (ha : xH as) (hb : xH bs) (h0 : 0 <= c) (h1 : c < 26) (h8 : as.length + 1 + bs.length <= 8) : cQ (oh as ++ lt1 c ++ oh bs) := by
 have e : oh as ++ lt1 c ++ oh bs = oh (as ++ [c] ++ bs) := by
  apply nP
  rw [dF, dF, oF, oF, oF]
  simp [lt1]
 rw [e]
 refine La Z6 Z6 fun k hk => ?_
 simp only [mem_append, mem_singleton] at hk
 rcases hk with (hk | rfl) | hk
 ·exact ha k hk
 ·exact ⟨h0, h1⟩
 ·exact hb k hk
def Lk : List Str := ["let", "be", "draw", "as", "part", "from", "late", "a"]
theorem JM : ∀ z ∈ Lk, cQ z := fun z hz => by
 simp only [Lk, mem_cons, not_mem_nil, or_false] at hz
 rcases hz with rfl | rfl | rfl | rfl | rfl | rfl | rfl | rfl
 all_goals exact Dz Z4
def Dn : Sp := fun vs H Q _ => ∃ c : Int, vs = [.int c] /\ ∀ l H' (ws : List Str), H l = none -> az H H' -> ws.length = 8 -> (∀ w ∈ ws, cQ w) -> H' l = some (.lst (ws.map V.str)) -> Q (.ref l) H'
theorem zM (x : Str) : ¬ (Builtin.Str.strKind x < Builtin.Str.strKind ("." : Str)) := by
 have e : Builtin.Str.strKind ("." : Str) = 1 := by decide +kernel
 rw [e]
 unfold Builtin.Str.strKind
 split
 ·decide
 ·split <;> decide
theorem Ht {ys : List Str} (g : bO ys) : Txt.count (dotted ys) ("." : Str) = (ys.length : Int) - 1 := by
 have hs := bK ys g.lo g.nm
 have h1 : 1 <= (dotted ys).length := by
  obtain ⟨y, hy⟩ := List.exists_mem_of_ne_nil ys g.lo
  obtain ⟨c, hc, _⟩ := lq g.lo g.nm
  have := List.length_pos_of_mem hc
  rw [length_toList] at this
  exact this
 have hl := congrArg List.length hs
 unfold Txt.split at hl
 have hd : (("." : Str)).length = 1 := by decide +kernel
 rw [if_neg (by rw [hd, decide_eq_false Z1, decide_eq_false (zM _)]; decide)] at hl
 unfold Txt.count
 by_cases he : (Builtin.Str.occurrences (dotted ys) "." 0 (dotted ys).length ((dotted ys).length + 1)).isEmpty = true
 ·rw [if_pos he] at hl
  have hl : 1 = ys.length := hl
  rw [List.isEmpty_iff.mp he, <- hl]
  rfl
 ·rw [if_neg he, length_partsBetween] at hl
  omega
theorem iD {p : List Str} {w : Str} (h : p ≠ []) : dotted p ++ "." ++ w = dotted (p ++ [w]) := by
 rw [cH, cH, pQ, join_snoc _ _ _ h]
theorem Cj {a b : List Str} (ga : bO a) (gb : bO b) (e : dotted a = dotted b) : a = b := by
 rw [<- bK a ga.lo ga.nm, e, bK b gb.lo gb.nm]
theorem oZ {a : List Str} (g : bO a) : dotted a ≠ "" := fun e => by
 obtain ⟨c, hc, _⟩ := lq g.lo g.nm
 have e0 : ("" : Str).cps.toList = [] := by decide +kernel
 rw [e, e0] at hc
 cases hc
structure cR (as : List (List Str)) : Prop where
 hi : as.length <= 12
 ok : ∀ a ∈ as, bO a
 nd : (as.map dotted).Nodup
 up : ∀ a ∈ as, a.dropLast = [] \/ a.dropLast ∈ as
theorem cR.snoc {as : List (List Str)} {a : List Str} (g : cR as) (h : as.length < 12) (ga : bO a) (hn : dotted a ∉ as.map dotted) (hu : a.dropLast = [] \/ a.dropLast ∈ as) : cR (as ++ [a]) := by
 refine ⟨by rw [length_append]; show as.length + 1 <= 12; omega, fun b hb => ?_, ?_, fun b hb => ?_⟩
 ·rcases mem_append.mp hb with hb | hb
  ·exact g.ok b hb
  ·rw [mem_singleton.mp hb]; exact ga
 ·rw [map_append]
  exact CP g.nd hn
 ·rcases mem_append.mp hb with hb | hb
  ·exact (g.up b hb).imp id (mem_append_left _)
  ·rw [mem_singleton.mp hb]
   exact hu.imp id (mem_append_left _)
theorem cR.rev {as : List (List Str)} (g : cR as) : cR as.reverse := by
 refine ⟨by rw [List.length_reverse]; exact g.hi, fun b hb => g.ok b (List.mem_reverse.mp hb), ?_, fun b hb => (g.up b (List.mem_reverse.mp hb)).imp id List.mem_reverse.mpr⟩
 rw [List.map_reverse]
 exact List.pairwise_reverse.mpr (List.Pairwise.imp (fun h => Ne.symm h) g.nd)
theorem cu {zs : List Str} {c k : Int} (h : zs ≠ []) : ∃ z ∈ zs, atI (zs.map V.str) (pick c k zs.length) = some (V.str z) := by
 have hl : 0 < (zs.length : Int) := by have := length_pos_iff.mpr h; omega
 have h1 := gR c k hl
 have h2 := jK c k hl
 have h3 : (pick c k zs.length).toNat < zs.length := by omega
 refine ⟨zs[(pick c k zs.length).toNat], getElem_mem h3, ?_⟩
 have := aF (xs := zs.map V.str) (j := (pick c k zs.length).toNat) (v := V.str zs[(pick c k zs.length).toNat]) (by rw [getElem?_map, getElem?_eq_getElem h3]; rfl)
 rwa [show (((pick c k zs.length).toNat : Nat) : Int) = pick c k zs.length from by omega] at this
def Gd : Sp := fun vs H Q _ => ∃ (c n : Int) (lw : Addr) (ws : List Str), vs = [.int c, .int n, .ref lw] /\ 1 <= n /\ n <= 12 /\ H lw = some (.lst (ws.map V.str)) /\ ws.length = 8 /\ (∀ w ∈ ws, cQ w) /\
 ∀ l H' (as : List (List Str)), H l = none -> az H H' -> as ≠ [] -> cR as -> H' l = some (.lst ((as.map dotted).map V.str)) -> Q (.ref l) H'
def fW (v : V) : Bool := match v with | .str z => decide (Txt.count z "." < 2) | _ => false
theorem G9 {as : List (List Str)} (g : cR as) {v : V} (h : v ∈ ((as.map dotted).map V.str).filter fW) : ∃ a ∈ as, v = .str (dotted a) /\ a.length <= 2 := by
 obtain ⟨h1, h2⟩ := mem_filter.mp h
 obtain ⟨z, hz, rfl⟩ := mem_map.mp h1
 obtain ⟨a, ha, rfl⟩ := mem_map.mp hz
 have h3 : Txt.count (dotted a) "." < 2 := of_decide_eq_true h2
 rw [Ht (g.ok a ha)] at h3
 exact ⟨a, ha, rfl, Z1⟩
theorem fM (zs : List Str) (p : V -> Bool) : (zs.map V.str).filter p = (zs.filter fun z => p (.str z)).map V.str := by rw [List.filter_map]; rfl
def Ds : Sp := fun vs H Q _ => ∃ (c : Int) (la lw : Addr) (as : List (List Str)) (ws : List Str), vs = [.int c, .ref la, .ref lw] /\ H la = some (.lst ((as.map dotted).map V.str)) /\ as ≠ [] /\ cR as /\ H lw = some (.lst (ws.map V.str)) /\ ws.length = 8 /\ (∀ w ∈ ws, cQ w) /\ ∀ ys, bO ys -> Pur (.str (dotted ys)) H Q
theorem PL : cQ ("a" : Str) := Dz Z4
theorem Am {w : Str} (h : cQ w) : bO [w] := ⟨Z2, (by show 1 <= 3; decide), fun y hy => by rw [mem_singleton.mp hy]; exact h⟩
theorem Eh {p : List Str} {w : Str} (gp : bO p) (h2 : p.length <= 2) (nw : cQ w) : bO (p ++ [w]) := ⟨Z2, by rw [length_append]; show p.length + 1 <= 3; omega, fun y hy => by
 rcases mem_append.mp hy with hy | hy
 ·exact gp.nm y hy
 ·rw [mem_singleton.mp hy]; exact nw⟩
structure G4 (so : Nat) (nm ad wd : Str) : Prop where
 h5 : so <= 5
 hn : so < 5 -> cQ nm
 h0 : so = 5 -> nm = ""
 ha : (ad = "" /\ so = 5) \/ ∃ ys, bO ys /\ ad = dotted ys /\ cQ wd
theorem NT : yD [⟨1, .num 1⟩] := ⟨Z2, Z0, (fun t ht => by rw [mem_singleton.mp ht]; exact ⟨.inl rfl, (by show 1 < 10 ^ 20; decide)⟩), fun t ht => by cases ht; rfl⟩
theorem Ju {ys : List Str} {w : Str} (g : bO ys) (h : cQ w) : yD [⟨1, .nms false ys⟩, ⟨-1, .nms false [w]⟩] := by
 refine ⟨Z2, (by show 2 <= 6; decide), fun t ht => ?_, fun t ht => by cases ht; rfl⟩
 simp only [mem_cons, not_mem_nil, or_false] at ht
 rcases ht with rfl | rfl
 ·exact ⟨.inl rfl, g.lo, le_trans g.hi Z0, g.nm⟩
 ·exact ⟨.inr rfl, Z2, (by show 1 <= 4; decide), fun y hy => by rw [mem_singleton.mp hy]; exact h⟩
def Py (K : Frag) (n : Bool) : R2 := fun x y H Q => ∃ a b xs, x = .ref a /\ y = .ref b /\ SqL K H a xs /\ SqL K H b [] /\ Q (.bl (xs.isEmpty == n)) H
theorem Nt {X : Cx} {K : Frag} (hK : X.K = K) (hu : X.A.units + 64 < cLine) : OpR X (compareOp .Eq) (Py K true) := by
 subst hK
 intro pins s σ H x y v u Q I rx ry h
 obtain ⟨a, b, xs, rfl, rfl, ha, hb, q⟩ := h
 cases rx; cases ry
 obtain ⟨us, r1, p1, _⟩ := I.list ha
 obtain ⟨ws, r2, p2, _⟩ := I.list hb
 cases r2
 cases r1 with
 | nil => exact SeqAt.eq_listAt (e := fun _ => true) p1.isList p2.isList rfl Z1 (fun j h1 h2 => absurd h1 (not_lt_zero _)) ⟨.bl true, H, I, rfl, q⟩
 | cons r t => exact SeqAt.eq_list_lengthsAt p1.isList p2.isList Z2 Z1 ⟨.bl false, H, I, rfl, q⟩
theorem Ni {X : Cx} {K : Frag} (hK : X.K = K) (hu : X.A.units + 64 < cLine) : OpR X (compareOp .NotEq) (Py K false) := by
 subst hK
 intro pins s σ H x y v u Q I rx ry h
 obtain ⟨a, b, xs, rfl, rfl, ha, hb, q⟩ := h
 cases rx; cases ry
 obtain ⟨us, r1, p1, _⟩ := I.list ha
 obtain ⟨ws, r2, p2, _⟩ := I.list hb
 cases r2
 cases r1 with
 | nil =>
  have := SeqAt.RcNeAt.lists (A := X.A) (s := s) (e := fun _ => true) p1.isList p2.isList rfl Z1 fun j h1 h2 => absurd h1 (not_lt_zero _)
  exact this X.prog X.w X.xe _ ⟨.bl false, H, I, rfl, q⟩
 | cons r t =>
  have := SeqAt.RcNeAt.lists_lengths (A := X.A) (s := s) p1.isList p2.isList Z2 Z1
  exact this X.prog X.w X.xe _ ⟨.bl true, H, I, rfl, q⟩
theorem Ja {z : Str} (h : (!(Builtin.Str.occurrences z ("." : Str) 0 z.length 1).isEmpty) = true) : 46 ∈ z.cps.toList := by
 have hne : Builtin.Str.occurrences z ("." : Str) 0 z.length 1 ≠ [] := fun e => by rw [e] at h; cases h
 obtain ⟨i, hi⟩ := List.exists_mem_of_ne_nil _ hne
 obtain ⟨h1, h2⟩ := StrLaws.occ_spec _ _ _ _ _ _ hi
 rw [pQ] at h1 h2
 exact mem_of_getElem? ((vh z 46 i).mp ⟨h1, h2⟩)
def rn (v : V) : Bool := match v with | .str z => !(Builtin.Str.occurrences z ("." : Str) 0 z.length 1).isEmpty | _ => false
theorem BL {as : List (List Str)} (g : cR as) {z : Str} (h : z ∈ (as.map dotted).filter fun z => rn (.str z)) : ∃ xs b, xs ++ [b] ∈ as /\ z = dotted (xs ++ [b]) /\ xs ≠ [] := by
 obtain ⟨h1, h2⟩ := mem_filter.mp h
 obtain ⟨a, ha, rfl⟩ := mem_map.mp h1
 have ga := g.ok a ha
 have h46 := Ja h2
 obtain ⟨xs, b, rfl⟩ : ∃ xs b, a = xs ++ [b] := ⟨a.dropLast, a.getLast ga.lo, (List.dropLast_concat_getLast ga.lo).symm⟩
 refine ⟨xs, b, ha, rfl, fun e => ?_⟩
 subst e
 rw [nil_append, cL] at h46
 exact (ga.nm b Z2).nodot h46
theorem Jv {xs : List Str} {b : Str} : atI ((xs ++ [b]).map V.str) (-1) = some (V.str b) := by
 unfold atI ixN
 rw [if_neg Z0, if_pos Z6]
 simp only [length_map, length_append, List.length_singleton, bind_some, map_append]
 rw [show (-1 + ((xs.length + 1 : Nat) : Int)).toNat = xs.length from by omega, getElem?_append_right Z2]
 simp
def K5 : List V := [.str "draw", .str "late", .str "take", .str "draw", .str "take", .str "let", .str "deed", .str "need"]
theorem Hr {k : Int} (h0 : 0 <= k) (h1 : k < 8) : ∃ so, so <= 5 /\ atI K5 k = some (V.str (jH so)) := by
 rcases (by omega : k = 0 \/ k = 1 \/ k = 2 \/ k = 3 \/ k = 4 \/ k = 5 \/ k = 6 \/ k = 7) with rfl | rfl | rfl | rfl | rfl | rfl | rfl | rfl
 ·exact ⟨2, Z0, aF (j := 0) rfl⟩
 ·exact ⟨3, Z0, aF (j := 1) rfl⟩
 ·exact ⟨4, Z0, aF (j := 2) rfl⟩
 ·exact ⟨2, Z0, aF (j := 3) rfl⟩
 ·exact ⟨4, Z0, aF (j := 4) rfl⟩
 ·exact ⟨0, Z0, aF (j := 5) rfl⟩
 ·exact ⟨1, Z0, aF (j := 6) rfl⟩
 ·exact ⟨5, Z0, aF (j := 7) rfl⟩
def xj : Sp := fun vs H Q _ => ∃ (c : Int) (lk la lw : Addr) (ks : List Str) (as : List (List Str)) (ws : List Str), vs = [.int c, .ref lk, .ref la, .ref lw] /\ H lk = some (.lst (ks.map V.str)) /\ H la = some (.lst ((as.map dotted).map V.str)) /\ as ≠ [] /\ cR as /\ H lw = some (.lst (ws.map V.str)) /\ ws.length = 8 /\ (∀ w ∈ ws, cQ w) /\
 ∀ p H' so nm ad wd, H p = none -> az H H' -> H' p = some (.tup [.str (jH so), .str nm, .str ad, .str wd]) -> G4 so nm ad wd -> (so < 5 -> nm ∈ ws /\ nm ∉ ks) -> Q (.ref p) H'
theorem Dl : ∀ (p : Str) (l : List Str), risingS p l = true -> (p :: l).Pairwise fun a b => a.cps.toList <= b.cps.toList
 | p, [], _ => by simp
 | p, x :: r, h => by
  have h : (!ltCps x.cps.toList p.cps.toList && risingS x r) = true := h
  rw [and_eq_true] at h
  have h1 : ¬ (x.cps.toList < p.cps.toList) := by
   have := h.1
   rw [ltCps_eq] at this
   simpa using this
  have ih := Dl x r h.2
  have hpx : p.cps.toList <= x.cps.toList := List.not_lt.mp h1
  refine List.Pairwise.cons (fun c hc => ?_) ih
  rcases mem_cons.mp hc with rfl | hc
  ·exact hpx
  ·exact List.le_trans hpx ((List.pairwise_cons.mp ih).1 c hc)
theorem tL : ∀ {l : List Str}, sortedS l = true -> l.Pairwise fun a b => a.cps.toList <= b.cps.toList
 | [], _ => .nil
 | x :: r, h => Dl x r h
theorem Ck {a b : List Str} (p : a.Perm b) (ha : sortedS a = true) (hb : sortedS b = true) : a = b :=
 eq_of_pairwise (fun a b _ _ h1 h2 => nP (List.le_antisymm h1 h2)) (tL ha) (tL hb) p
def jd (p : aU) : Str := zW (dotted p.ad) p.rs
theorem Gy {ps : List aU} {i : Nat} (hi : i < ps.length) : ((ps.map jd).map V.str).getD i .non = V.str (jd ps[i]) := by simp [List.getD, hi]
theorem xQ {ps : List aU} {n : Nat} (hn : n = ps.length) : (List.range n).map (fun i => ((ps.map jd).map V.str).getD i .non) = (ps.map jd).map V.str := by
 apply ext_getElem
 ·simp [hn]
 ·intro i h1 h2
  have : i < ps.length := by simpa using h2
  simp [this]
theorem oY (zs : List Str) : ∀ v ∈ zs.map V.str, dM v = true \/ ∃ p, v = .ref p := fun v hv => by
 obtain ⟨z, _, rfl⟩ := mem_map.mp hv
 exact .inl rfl
theorem aY.u1 {k : Nat} {A : Around} (r : aY k A) : A.units + 1 < cLine := by have := r.units; omega
structure Q4 where
 so : Nat
 nm : Str
 ad : Str
 wd : Str
def TupAt (H : Hp) (p : Addr) (d : Q4) : Prop := H p = some (.tup [.str (jH d.so), .str d.nm, .str d.ad, .str d.wd])
def cX (H : Hp) (l : Addr) (ds : List Q4) : Prop := ∃ xs : List V, H l = some (.lst xs) /\ xs.length = ds.length /\ ∀ (i : Nat) d, ds[i]? = some d -> ∃ p, xs[i]? = some (.ref p) /\ TupAt H p d
theorem cX.same {H H' : Hp} {l : Addr} {ds : List Q4} (h : cX H l ds) (s : az H H') : cX H' l ds := by
 obtain ⟨xs, hl, hn, hx⟩ := h
 exact ⟨xs, s _ _ hl, hn, fun i d e => by obtain ⟨p, e2, t⟩ := hx i d e; exact ⟨p, e2, s _ _ t⟩⟩
theorem cX.off {H : Hp} {l b : Addr} {ds : List Q4} {o : HO} (h : cX H l ds) (hl : l ≠ b) (hb : ∀ ys, H b ≠ some (.tup ys)) : cX (upd H b o) l ds := by
 obtain ⟨xs, hx, hn, ht⟩ := h
 refine ⟨xs, by rw [aK hl]; exact hx, hn, fun i d e => ?_⟩
 obtain ⟨p, e2, t⟩ := ht i d e
 exact ⟨p, e2, by unfold TupAt; rw [aK (fun z => hb _ (z ▸ t))]; exact t⟩
structure DictAt (H0 H : Hp) (R : Addr) (as : List (List Str)) (n : Nat) (L : Nat -> Addr) (rs : Nat -> List Q4) : Prop where
 r0 : H0 R = none
 l0 : ∀ i, i < n -> H0 (L i) = none
 dk : ∃ kvs : List (Key × V), H R = some (.dK kvs) /\ kvs.length <= n /\ ∀ (i : Nat) a, i < n -> as[i]? = some a -> iG kvs (.inr (dotted a)) = some (.ref (L i))
 ts : ∀ i, i < n -> cX H (L i) (rs i)
 ap : ∀ i j, i < n -> j < n -> L i = L j -> i = j
structure lg (as : List (List Str)) (rs : Nat -> List Q4) : Prop where
 hi : ∀ i, i < as.length -> (rs i).length <= 12
 g4 : ∀ i, i < as.length -> ∀ d ∈ rs i, G4 d.so d.nm d.ad d.wd
 cl : ∀ (i : Nat) a, as[i]? = some a -> ∀ d ∈ rs i, d.so < 5 -> dotted a ++ "." ++ d.nm ∉ as.map dotted
theorem O1 {as : List (List Str)} (nd : (as.map dotted).Nodup) {i j : Nat} {a b : List Str} (ha : as[i]? = some a) (hb : as[j]? = some b) (h : i ≠ j) : dotted a ≠ dotted b := fun e => by
 have e1 : (as.map dotted)[i]? = some (dotted a) := by rw [getElem?_map, ha]; rfl
 have e2 : (as.map dotted)[j]? = some (dotted b) := by rw [getElem?_map, hb]; rfl
 exact h ((getElem?_inj (List.getElem?_eq_some_iff.mp e1).1 nd).mp (by rw [e1, e2, e]))
theorem DictAt.same {H0 H H' : Hp} {R : Addr} {as : List (List Str)} {n : Nat} {L : Nat -> Addr} {rs : Nat -> List Q4} (h : DictAt H0 H R as n L rs) (s : az H H') : DictAt H0 H' R as n L rs := by
 obtain ⟨a, b, ⟨kvs, c, d⟩, e, f⟩ := h
 exact ⟨a, b, ⟨kvs, s _ _ c, d⟩, fun i hi => (e i hi).same s, f⟩
theorem DictAt.more {H0 H : Hp} {R b : Addr} {as : List (List Str)} {n : Nat} {L : Nat -> Addr} {rs : Nat -> List Q4} {a : List Str} (nd : (as.map dotted).Nodup) (h : DictAt H0 H R as n L rs) (s : az H0 H) (hb : H b = none) (ha : as[n]? = some a) :
  ∀ kvs, H R = some (.dK kvs) -> kvs.length <= n /\ DictAt H0 (upd (upd H b (.lst [])) R (.dK (putK kvs (.inr (dotted a)) (.ref b)))) R as (n + 1) (fun i => if i = n then b else L i) (fun i => if i = n then [] else rs i) := by
 intro kvs hk
 obtain ⟨r0, l0, ⟨kvs', hk', hl, hv⟩, ts, ap⟩ := h
 rw [hk] at hk'
 cases hk'
 have hbR : R ≠ b := aD hk hb
 have hLb : ∀ i, i < n -> L i ≠ b := fun i hi => by obtain ⟨xs, hx, _⟩ := ts i hi; exact aD hx hb
 refine ⟨hl, r0, fun i hi => ?_, ⟨_, ak, le_trans (jV _ _ _) (Nat.succ_le_succ hl), fun i c hi hc => ?_⟩, fun i hi => ?_, fun i j hi hj e => ?_⟩
 ·by_cases k : i = n
  ·rw [if_pos k]; exact s.free hb
  ·rw [if_neg k]; exact l0 i Z1
 ·rw [u5]
  by_cases k : i = n
  ·subst k
   rw [ha] at hc
   cases hc
   rw [if_pos rfl, if_pos rfl]
  ·rw [if_neg k, if_neg (fun z => O1 nd hc ha k (Sum.inr.inj z))]
   exact hv i c Z1 hc
 ·by_cases k : i = n
  ·subst k
   simp only [if_true]
   refine ⟨[], by rw [aK hbR.symm]; exact ak, rfl, fun i d e => by simp at e⟩
  ·simp only [if_neg k]
   obtain ⟨xs, hx, hn, ht⟩ := ts i Z1
   have hR : L i ≠ R := fun z => by rw [z, hk] at hx; cases hx
   exact (cX.off (H := H) ⟨xs, hx, hn, ht⟩ (hLb i Z1) (fun ys => by rw [hb]; intro z; cases z)).off hR (fun ys => by rw [aK hbR, hk]; intro z; cases z)
 ·by_cases k : i = n
  ·by_cases m : j = n
   ·omega
   ·simp only [if_pos k, if_neg m] at e
    exact absurd e.symm (hLb j Z1)
  ·by_cases m : j = n
   ·simp only [if_neg k, if_pos m] at e
    exact absurd e (hLb i Z1)
   ·simp only [if_neg k, if_neg m] at e
    exact ap i j Z1 Z1 e
theorem DictAt.row {H0 H : Hp} {R p : Addr} {as : List (List Str)} {n i : Nat} {L : Nat -> Addr} {rs : Nat -> List Q4} {d : Q4} (h : DictAt H0 H R as n L rs) (hi : i < n) (hp : TupAt H p d) :
  ∀ xs, H (L i) = some (.lst xs) -> DictAt H0 (upd H (L i) (.lst (xs ++ [.ref p]))) R as n L (fun j => if j = i then rs i ++ [d] else rs j) := by
 intro xs hx
 obtain ⟨r0, l0, ⟨kvs, hk, hl, hv⟩, ts, ap⟩ := h
 have hRi : R ≠ L i := fun z => by rw [z, hx] at hk; cases hk
 have hT : ∀ ys, H (L i) ≠ some (.tup ys) := fun ys => by rw [hx]; intro z; cases z
 refine ⟨r0, l0, ⟨kvs, by rw [aK hRi]; exact hk, hl, hv⟩, fun j hj => ?_, ap⟩
 by_cases k : j = i
 ·subst k
  simp only [if_true]
  obtain ⟨ys, hy, hn, ht⟩ := ts j hj
  rw [hx] at hy
  cases hy
  refine ⟨_, ak, by rw [length_append, length_append, hn]; rfl, fun m e hm => ?_⟩
  have off : ∀ q e, TupAt H q e -> TupAt (upd H (L j) (.lst (xs ++ [.ref p]))) q e := fun q e t => by unfold TupAt; rw [aK (fun z => hT _ (z ▸ t))]; exact t
  rcases lt_or_ge m (rs j).length with z | z
  ·rw [getElem?_append_left z] at hm
   obtain ⟨q, e2, t⟩ := ht m e hm
   exact ⟨q, by rw [getElem?_append_left Z1]; exact e2, off q e t⟩
  ·rw [getElem?_append_right z] at hm
   have hm0 : m - (rs j).length = 0 := by
    have := (List.getElem?_eq_some_iff.mp hm).1
    simp at this
    omega
   rw [hm0] at hm
   cases hm
   exact ⟨p, by rw [getElem?_append_right Z1, hn, hm0]; rfl, off p d hp⟩
 ·simp only [if_neg k]
  exact (ts j hj).off (fun z => k (ap j i hj hi z)) hT
theorem HR {as : List (List Str)} {c k : Int} (h : as ≠ []) : ∃ (i : Nat) (a : List Str), as[i]? = some a /\ atI ((as.map dotted).map V.str) (pick c k (as.map dotted).length) = some (V.str (dotted a)) := by
 obtain ⟨z, hz, e⟩ := cu (zs := as.map dotted) (c := c) (k := k) (by simpa using h)
 obtain ⟨a, ha, rfl⟩ := mem_map.mp hz
 obtain ⟨i, hi, e2⟩ := getElem_of_mem ha
 exact ⟨i, a, by rw [getElem?_eq_getElem hi, e2], e⟩
def zj (a : Str) (v : V) : V := match v with | .str w => .str (a ++ "." ++ w) | v => v
theorem lg.row {as : List (List Str)} {rs : Nat -> List Q4} {i : Nat} {a : List Str} {d : Q4} (h : lg as rs) (hi : as[i]? = some a) (hl : (rs i).length < 12) (g : G4 d.so d.nm d.ad d.wd) (hc : d.so < 5 -> dotted a ++ "." ++ d.nm ∉ as.map dotted) : lg as (fun j => if j = i then rs i ++ [d] else rs j) := by
 refine ⟨fun j hj => ?_, fun j hj e he => ?_, fun j b hb e he h5 => ?_⟩
 ·by_cases k : j = i
  ·simp only [if_pos k, length_append]
   show (rs i).length + 1 <= 12
   omega
  ·simp only [if_neg k]
   exact h.hi j hj
 ·by_cases k : j = i
  ·subst k
   simp only [if_true] at he
   rcases mem_append.mp he with he | he
   ·exact h.g4 j hj e he
   ·rw [mem_singleton.mp he]; exact g
  ·simp only [if_neg k] at he
   exact h.g4 j hj e he
 ·by_cases k : j = i
  ·subst k
   rw [hi] at hb
   cases hb
   simp only [if_true] at he
   rcases mem_append.mp he with he | he
   ·exact h.cl j a hi e he h5
   ·rw [mem_singleton.mp he] at h5 ⊢; exact hc h5
  ·simp only [if_neg k] at he
   exact h.cl j b hb e he h5
theorem Gh {ds : List Q4} {n : Nat} (hn : n = ds.length) : (List.range n).map (fun m => V.str ((ds.map Q4.nm).getD m "")) = (ds.map Q4.nm).map V.str := by
 apply ext_getElem
 ·simp [hn]
 ·intro m h1 h2
  have : m < ds.length := by simpa using h2
  simp [this]
theorem DictAt.get {H0 H H' : Hp} {R : Addr} {as : List (List Str)} {n i : Nat} {L : Nat -> Addr} {rs : Nat -> List Q4} {a : List Str} (h : DictAt H0 H R as n L rs) (hi : i < n) (ha : as[i]? = some a) (s : az H H') : yH H' R (V.str (dotted a)) (some (.ref (L i))) := by
 obtain ⟨kvs, hk, _, hv⟩ := h.dk
 have := yH.k (k := .inr (dotted a)) (s _ _ hk)
 rw [hv i a hi ha] at this
 exact this
def GC (K : Frag) : Sp := fun vs H Q _ => ∃ (S la lw : Addr) (ns : List Int) (as : List (List Str)) (ws : List Str), vs = [.ref S, .ref la, .ref lw] /\ SqL K H S (ns.map V.int) /\ H la = some (.lst ((as.map dotted).map V.str)) /\ as ≠ [] /\ cR as /\ H lw = some (.lst (ws.map V.str)) /\ ws.length = 8 /\ (∀ w ∈ ws, cQ w) /\
 ∀ R H' L rs, az H H' -> DictAt H H' R as as.length L rs -> lg as rs -> Q (.ref R) H'
def zH (K : Frag) : Sp := fun vs H Q _ => ∃ (S : Addr) (ns : List Int), vs = [.ref S] /\ SqL K H S (ns.map V.int) /\
 ∀ (p lw la R : Addr) (ws : List Str) (as : List (List Str)) L rs H1 H', H' p = some (.tup [.ref lw, .ref la, .ref R]) -> az H H' -> H' lw = some (.lst (ws.map V.str)) -> ws.length = 8 -> (∀ w ∈ ws, cQ w) -> H' la = some (.lst ((as.map dotted).map V.str)) -> as ≠ [] -> cR as -> DictAt H1 H' R as as.length L rs -> lg as rs -> Q (.ref p) H'
structure Nf (as : List (List Str)) (p : aU) : Prop where
 ok : lK p
 cl : ∀ r ∈ p.rs, r.nm ≠ "" -> dotted p.ad ++ "." ++ r.nm ∉ as.map dotted
theorem Lj {as : List (List Str)} {ps : List aU} (hl : ps.length = as.length) (h : ∀ (i : Nat) p, ps[i]? = some p -> as[i]? = some p.ad) : adS ps = as.map dotted := by
 unfold adS
 apply ext_getElem
 ·simp [hl]
 ·intro i h1 h2
  have hi : i < ps.length := by simpa using h1
  have hj : i < as.length := by omega
  have := h i _ (getElem?_eq_getElem hi)
  rw [getElem?_eq_getElem hj] at this
  simp [Option.some.inj this]
theorem Gn {as : List (List Str)} {ps : List aU} (g : cR as) (hl : ps.length = as.length) (e : adS ps = as.map dotted) (h : ∀ p ∈ ps, p.ad ∈ as /\ Nf as p) : bH ps := by
 refine ⟨by rw [hl]; exact g.hi, fun p hp => (h p hp).2.ok, by rw [e]; exact g.nd, fun p hp => ?_, fun p hp r hr hn => by rw [e]; exact (h p hp).2.cl r hr hn⟩
 rw [e]
 exact (g.up _ (h p hp).1).imp id fun z => mem_map.mpr ⟨_, z, rfl⟩
def fL (ys : List Str) : List Str := (List.range ys.length).map fun i => dotted (ys.take (i + 1))
theorem uJ (xs : List Str) (b : Str) : fL (xs ++ [b]) = fL xs ++ [dotted (xs ++ [b])] := by
 unfold fL
 rw [length_append, List.length_singleton, range_succ, map_append]
 congr 1
 ·refine map_congr_left fun i hi => ?_
  have := mem_range.mp hi
  rw [List.take_append_of_le_length Z1]
 ·show [dotted ((xs ++ [b]).take (xs.length + 1))] = _
  rw [List.take_of_length_le Z2]
theorem lN (ys : List Str) : (fL ys).length = ys.length := by unfold fL; rw [length_map, length_range]
def pP (z : Str) : List Str := fL (Txt.split z ("." : Str))
theorem qU {ys : List Str} (g : bO ys) : pP (dotted ys) = fL ys := by
 unfold pP
 rw [bK ys g.lo g.nm]
def eX (r : bV) : List Str := (dR r).flatMap fun ad => pP ad ++ (if r.so = 4 then [ad ++ "." ++ r.wd] else [])
def linked (p : aU) : List Str := fu p.ad :: p.rs.flatMap eX
theorem rC {r : bV} (g : GoodR r) : (eX r).length <= 4 := by
 unfold eX dR
 obtain ⟨ys, gy, e⟩ := g.ad
 by_cases c : r.so = 2 \/ r.so = 3 \/ r.so = 4
 ·rw [if_pos c]
  have hp : (pP r.ad).length <= 3 := by rw [e, qU gy, lN]; exact gy.hi
  simp only [List.flatMap_cons, List.flatMap_nil, append_nil, length_append]
  split
  ·show _ + 1 <= 4; omega
  ·show _ + 0 <= 4; omega
 ·rw [if_neg c]
  exact zero_le _
theorem Fv {rs : List bV} (h : ∀ r ∈ rs, GoodR r) : (rs.flatMap eX).length <= 4 * rs.length := by
 induction rs with
 | nil => simp
 | cons r t ih =>
  rw [List.flatMap_cons, length_append, length_cons]
  have h1 := rC (h r Z2)
  have h2 := ih fun r hr => h r (mem_cons_of_mem _ hr)
  omega
theorem rA {α : Type} {f : α -> List Str} {rs : List α} {i : Nat} {r : α} (e : rs[i]? = some r) : (rs.take (i + 1)).flatMap f = (rs.take i).flatMap f ++ f r := by
 rw [take_succ, e, List.flatMap_append]
 simp
theorem eG (y : Str) (zs : List Str) : inV (.str y) (zs.map V.str) = decide (y ∈ zs) := by
 by_cases h : y ∈ zs
 ·rw [decide_eq_true h]; exact uR (mem_map.mpr ⟨y, h, rfl⟩)
 ·rw [decide_eq_false h]
  exact Gz fun v hv => by
   obtain ⟨z, hz, rfl⟩ := mem_map.mp hv
   exact ⟨z, rfl, fun e => h (e ▸ hz)⟩
theorem Dd (zs ls : List Str) : (zs.map V.str).filter (fun v => inV v (ls.map V.str)) = (zs.filter fun y => decide (y ∈ ls)).map V.str := by
 rw [fM]
 congr 1
 exact List.filter_congr fun y _ => eG y ls
def kY (d : Q4) : List Str := (if d.so = 2 \/ d.so = 3 \/ d.so = 4 then pP d.ad else []) ++ (if d.so = 4 then [d.ad ++ "." ++ d.wd] else [])
def qd (a : List Str) : List Str := if a.dropLast = [] then [] else [dotted a.dropLast]
def vp (a : List Str) (ds : List Q4) : List Str := qd a ++ ds.flatMap kY
theorem Ij (a : List Str) : (qd a).length <= 1 := by unfold qd; split <;> simp
theorem Ep {zs ys as : List Str} {p q : Str -> Bool} (h1 : zs.Perm as) (h2 : sortedS zs = true) (h3 : ys.Perm (as.filter q)) (h4 : sortedS ys = true) (e : ∀ y ∈ as, p y = q y) : zs.filter p = ys :=
 eq_of_pairwise (fun a b _ _ h1 h2 => nP (List.le_antisymm h1 h2)) ((tL h2).sublist List.filter_sublist) (tL h4) ((h1.filter p).trans (List.Perm.trans (List.Perm.of_eq (List.filter_congr e)) h3.symm))
theorem Nj {a : List Str} (g : bO a) : fc ((fL a).map V.str) (some (-2)) (some (-1)) = (qd a).map V.str := by
 obtain ⟨xs, b, rfl⟩ : ∃ xs b, a = xs ++ [b] := ⟨a.dropLast, a.getLast g.lo, (List.dropLast_concat_getLast g.lo).symm⟩
 unfold qd
 rw [List.dropLast_concat, uJ]
 by_cases hx : xs = []
 ·subst hx
  rw [if_pos rfl]
  rfl
 ·rw [if_neg hx]
  obtain ⟨zs, c, rfl⟩ : ∃ zs c, xs = zs ++ [c] := ⟨xs.dropLast, xs.getLast hx, (List.dropLast_concat_getLast hx).symm⟩
  rw [uJ]
  have e : ((fL zs ++ [dotted (zs ++ [c])]) ++ [dotted (zs ++ [c] ++ [b])]).map V.str = (fL zs).map V.str ++ [V.str (dotted (zs ++ [c])), V.str (dotted (zs ++ [c] ++ [b]))] := by simp
  rw [e]
  generalize (fL zs).map V.str = us
  unfold fc
  have h1 : (us ++ [V.str (dotted (zs ++ [c])), V.str (dotted (zs ++ [c] ++ [b]))]).length = us.length + 2 := by simp
  rw [h1]
  have h2 : HT.sIx (us.length + 2) 0 (some (-2)) = us.length := by
   show (if (-2 : Int) < 0 then ((-2 : Int) + ((us.length + 2 : Nat) : Int)).toNat else min (-2 : Int).toNat (us.length + 2)) = _
   rw [if_pos Z0]
   omega
  have h3 : HT.sIx (us.length + 2) (us.length + 2) (some (-1)) = us.length + 1 := by
   show (if (-1 : Int) < 0 then ((-1 : Int) + ((us.length + 2 : Nat) : Int)).toNat else min (-1 : Int).toNat (us.length + 2)) = _
   rw [if_pos Z0]
   omega
  rw [h2, h3, List.drop_left, show us.length + 1 - us.length = 1 from by omega]
  rfl
theorem DQ {so : Nat} (h : so <= 5) : inV (V.str (jH so)) dal = decide (so = 2 \/ so = 3 \/ so = 4) := by
 rcases six h with rfl | rfl | rfl | rfl | rfl | rfl
 all_goals decide +kernel
def tM : Sp := fun vs H Q _ => ∃ ys : List Str, vs = [.str (dotted ys)] /\ bO ys /\ ∀ p H', H p = none -> az H H' -> H' p = some (.lst ((fL ys).map V.str)) -> Q (.ref p) H'
def De (C : Nat -> Addr) : Sp := fun vs H Q _ => ∃ (a t : Addr) (r : bV), vs = [.ref a] /\ d8 C H a t r /\ GoodR r /\ ∀ b H', H b = none -> az H H' -> H' b = some (.lst ((eX r).map V.str)) -> Q (.ref b) H'
def Ed (C : Nat -> Addr) : Sp := fun vs H Q E => ∃ (h l : Addr) (ps : List aU) (z : Str), vs = [.ref h, .str z] /\ cC C H h l ps /\ bH ps /\ z.length <= 1000 /\
 (∀ (i : Nat) p, ps[i]? = some p -> dotted p.ad = z -> ∀ b H' zs, H b = none -> az H H' -> zs.Perm (adS ps) -> sortedS zs = true -> H' b = some (.lst ((zs.filter fun y => decide (y ∈ linked p)).map V.str)) -> Q (.ref b) H') /\ (z ∉ adS ps -> ∀ x H', az H H' -> Ao C H' x z -> E (.ref x) none H')
structure G5 (d : Q4) : Prop where
 h5 : d.so <= 5
 hn : d.so < 5 -> cQ d.nm
 h0 : d.so = 5 -> d.nm = ""
 ha : (d.ad = "" /\ (d.so = 5 \/ d.so = 0)) \/ ∃ ys, bO ys /\ d.ad = dotted ys /\ cQ d.wd
theorem G4.g5 {d : Q4} (g : G4 d.so d.nm d.ad d.wd) : G5 d := ⟨g.h5, g.hn, g.h0, g.ha.imp (fun z => ⟨z.1, .inl z.2⟩) id⟩
def tsQ (d : Q4) : List Trm := if d.ad = "" then [⟨1, .num 1⟩] else [⟨1, .nms false (Txt.split d.ad ".")⟩, ⟨-1, .nms false [d.wd]⟩]
def iz (d : Q4) : bV := ⟨d.so, d.nm, if d.ad = "" then dotted ["a"] else d.ad, if d.ad = "" then "a" else d.wd, tsQ d⟩
theorem P0 {d : Q4} (h : d.ad = "") : iz d = ⟨d.so, d.nm, dotted ["a"], "a", [⟨1, .num 1⟩]⟩ := by unfold iz tsQ; rw [if_pos h, if_pos h, if_pos h]
theorem Mr {d : Q4} {ys : List Str} (g : bO ys) (e : d.ad = dotted ys) : iz d = ⟨d.so, d.nm, dotted ys, d.wd, [⟨1, .nms false ys⟩, ⟨-1, .nms false [d.wd]⟩]⟩ := by
 have h : ¬ d.ad = "" := by rw [e]; exact oZ g
 unfold iz tsQ
 rw [if_neg h, if_neg h, if_neg h, e, bK ys g.lo g.nm]
theorem nc0 : ∀ t ∈ ([⟨1, .num 1⟩] : List Trm), ∀ zs, t.th ≠ .nms true zs := fun t ht zs => by
 rw [mem_singleton.mp ht]
 intro z
 cases z
theorem nc1 {ys zs : List Str} : ∀ t ∈ ([⟨1, .nms false ys⟩, ⟨-1, .nms false zs⟩] : List Trm), ∀ us, t.th ≠ .nms true us := fun t ht us => by
 simp only [mem_cons, not_mem_nil, or_false] at ht
 rcases ht with rfl | rfl <;> intro z <;> cases z
theorem G5.good {d : Q4} (g : G5 d) : GoodR (iz d) := by
 rcases g.ha with ⟨h, _⟩ | ⟨ys, gy, e, hw⟩
 ·rw [P0 h]
  exact ⟨g.h5, g.hn, g.h0, ⟨_, Am PL, rfl⟩, PL, NT, fun _ => nc0⟩
 ·rw [Mr gy e]
  exact ⟨g.h5, g.hn, g.h0, ⟨ys, gy, rfl⟩, hw, Ju gy hw, fun _ => nc1⟩
theorem G5.named {d : Q4} (g : G5 d) : eX (iz d) = kY d := by
 unfold eX kY dR
 show ((if d.so = 2 \/ d.so = 3 \/ d.so = 4 then [(iz d).ad] else [])).flatMap _ = _
 by_cases c : d.so = 2 \/ d.so = 3 \/ d.so = 4
 ·rcases g.ha with ⟨_, z⟩ | ⟨ys, gy, e, hw⟩
  ·omega
  ·rw [if_pos c, if_pos c, Mr gy e, e]
   simp
 ·rw [if_neg c, if_neg c, if_neg Z1]
  simp
structure D3 where
 ad : List Str
 ds : List Q4
def bh (e : D3) : aU := ⟨e.ad, e.ds.map iz⟩
structure G3 (e : D3) : Prop where
 ad : bO e.ad
 hi : e.ds.length <= 12
 g5 : ∀ d ∈ e.ds, G5 d
theorem G3.good {e : D3} (g : G3 e) : lK (bh e) := ⟨g.ad, by show (e.ds.map iz).length <= 12; rw [length_map]; exact g.hi, fun r hr => by
 obtain ⟨d, hd, rfl⟩ := mem_map.mp hr
 exact (g.g5 d hd).good⟩
theorem G3.linked {e : D3} (g : G3 e) {y : Str} (hy : y ≠ "") : y ∈ linked (bh e) ↔ y ∈ vp e.ad e.ds := by
 unfold Mine.linked vp fu qd
 have en : (bh e).rs.flatMap eX = e.ds.flatMap kY := by
  show (e.ds.map iz).flatMap eX = _
  rw [List.flatMap_map, List.flatMap_def, List.flatMap_def]
  congr 1
  exact map_congr_left fun d hd => (g.g5 d hd).named
 rw [en]
 show y ∈ (if e.ad.dropLast = [] then ("" : Str) else dotted e.ad.dropLast) :: _ ↔ _
 by_cases c : e.ad.dropLast = []
 ·rw [if_pos c, if_pos c, nil_append, mem_cons]
  exact ⟨fun z => z.resolve_left hy, .inr⟩
 ·rw [if_neg c, if_neg c]
  rfl
abbrev adE (es : List D3) : List Str := es.map fun e => dotted e.ad
theorem ug (es : List D3) : adS (es.map bh) = adE es := by unfold adS; rw [map_map]; rfl
def qY (H : Hp) (v : V) (e : D3) : Prop := ∃ t b, v = .ref t /\ H t = some (.tup [.str (dotted e.ad), .ref b]) /\ cX H b e.ds
def SX (H : Hp) (xs : List V) (es : List D3) : Prop := xs.length = es.length /\ ∀ (i : Nat) e, es[i]? = some e -> ∃ v, xs[i]? = some v /\ qY H v e
def lM (H : Hp) (l : Addr) (es : List D3) : Prop := ∃ xs, H l = some (.lst xs) /\ SX H xs es
theorem qY.same {H H' : Hp} {v : V} {e : D3} (h : qY H v e) (s : az H H') : qY H' v e := by
 obtain ⟨t, b, e, h1, h2⟩ := h
 exact ⟨t, b, e, s _ _ h1, h2.same s⟩
theorem SX.same {H H' : Hp} {xs : List V} {es : List D3} (h : SX H xs es) (s : az H H') : SX H' xs es := ⟨h.1, fun i d e => by obtain ⟨v, e1, e2⟩ := h.2 i d e; exact ⟨v, e1, e2.same s⟩⟩
theorem lM.same {H H' : Hp} {l : Addr} {es : List D3} (h : lM H l es) (s : az H H') : lM H' l es := by
 obtain ⟨xs, h1, h2⟩ := h
 exact ⟨xs, s _ _ h1, h2.same s⟩
theorem SX.at {H : Hp} {xs : List V} {es : List D3} (h : SX H xs es) {i : Nat} {v : V} (e : xs[i]? = some v) : ∃ d, es[i]? = some d /\ qY H v d := by
 have hi : i < es.length := by rw [<- h.1]; exact (List.getElem?_eq_some_iff.mp e).1
 obtain ⟨v', e1, e2⟩ := h.2 i es[i] (getElem?_eq_getElem hi)
 rw [e] at e1
 cases e1
 exact ⟨_, getElem?_eq_getElem hi, e2⟩
theorem uA {es : List D3} {i : Nat} {e : D3} (h : es[i]? = some e) : ((adE es).map V.str).getD i .non = V.str (dotted e.ad) := by
 rw [getD_eq_getElem?_getD, getElem?_map, getElem?_map, h]
 rfl
theorem nM {es : List D3} {n : Nat} (hn : n = es.length) : (List.range n).map (fun i => ((adE es).map V.str).getD i .non) = (adE es).map V.str := by
 apply ext_getElem
 ·simp [hn]
 ·intro i h1 h2
  have : i < es.length := by simpa using h2
  simp [this]
theorem zu (xs : List V) (h : xs ≠ []) : fc xs none (some (-1)) = xs.dropLast := by
 unfold fc
 have h0 := length_pos_iff.mpr h
 have e2 : HT.sIx xs.length xs.length (some (-1)) = xs.length - 1 := by
  show (if (-1 : Int) < 0 then ((-1 : Int) + ((xs.length : Nat) : Int)).toNat else min (-1 : Int).toNat xs.length) = _
  rw [if_pos Z0]
  omega
 have e1 : HT.sIx xs.length 0 none = 0 := rfl
 rw [e1, e2, List.drop_zero, Nat.sub_zero, List.dropLast_eq_take]
theorem Dv {ys : List Str} (g : bO ys) : (!(Builtin.Str.occurrences (dotted ys) ("." : Str) 0 (dotted ys).length 1).isEmpty) = true ↔ ys.dropLast ≠ [] := by
 obtain ⟨xs, b, rfl⟩ : ∃ xs b, ys = xs ++ [b] := ⟨ys.dropLast, ys.getLast g.lo, (List.dropLast_concat_getLast g.lo).symm⟩
 rw [List.dropLast_concat]
 constructor
 ·intro h e
  subst e
  have h46 := Ja h
  rw [nil_append, cL] at h46
  exact (g.nm b Z2).nodot h46
 ·intro h
  rw [<- iD h, pQ, StrLaws.found_one]
  refine decide_eq_true ?_
  rw [dF, dF]
  exact mem_append_left _ (mem_append_right _ Z2)
def iI (kn : List Str) (i : Nat) (p : aU) : Nat := if 12 <= i then 1 else if p.ad.dropLast ≠ [] /\ dotted p.ad.dropLast ∉ kn then 3 else if ∃ r ∈ p.rs, r.nm ≠ "" /\ dotted p.ad ++ "." ++ r.nm ∈ kn then 4 else 0
section
variable {kn : List Str} {i : Nat} {p : aU}
theorem Lz (h : 12 <= i) : iI kn i p = 1 := if_pos h
theorem Ms (h : ¬ 12 <= i) (h3 : p.ad.dropLast ≠ [] /\ dotted p.ad.dropLast ∉ kn) : iI kn i p = 3 := by unfold iI; rw [if_neg h, if_pos h3]
theorem Kf (h : ¬ 12 <= i) (h3 : ¬ (p.ad.dropLast ≠ [] /\ dotted p.ad.dropLast ∉ kn)) (h4 : ∃ r ∈ p.rs, r.nm ≠ "" /\ dotted p.ad ++ "." ++ r.nm ∈ kn) : iI kn i p = 4 := by unfold iI; rw [if_neg h, if_neg h3, if_pos h4]
theorem Ei (h : ¬ 12 <= i) (h3 : ¬ (p.ad.dropLast ≠ [] /\ dotted p.ad.dropLast ∉ kn)) (h4 : ¬ ∃ r ∈ p.rs, r.nm ≠ "" /\ dotted p.ad ++ "." ++ r.nm ∈ kn) : iI kn i p = 0 := by unfold iI; rw [if_neg h, if_neg h3, if_neg h4]
theorem xO (e : iI kn i p = 0) : ¬ 12 <= i /\ ¬ (p.ad.dropLast ≠ [] /\ dotted p.ad.dropLast ∉ kn) /\ ¬ ∃ r ∈ p.rs, r.nm ≠ "" /\ dotted p.ad ++ "." ++ r.nm ∈ kn := by
 have h1 : ¬ 12 <= i := fun h => by rw [Lz h] at e; cases e
 have h3 : ¬ (p.ad.dropLast ≠ [] /\ dotted p.ad.dropLast ∉ kn) := fun h => by rw [Ms h1 h] at e; cases e
 exact ⟨h1, h3, fun h => by rw [Kf h1 h3 h] at e; cases e⟩
end
def pC (ps : List aU) (c i : Nat) : Prop := (∀ (j : Nat) d, j < i -> ps[j]? = some d -> iI (adS ps) j d = 0) /\ ((c = 0 /\ i = ps.length) \/ ((c = 1 \/ c = 3 \/ c = 4) /\ ∃ d, ps[i]? = some d /\ iI (adS ps) i d = c))
theorem Hw {ds : List aU} {c i c' i' : Nat} (h : pC ds c i) (h' : pC ds c' i') : i' <= i := by
 rcases lt_or_ge i i' with z | z
 ·rcases h.2 with ⟨_, rfl⟩ | ⟨h1, d, e, h2⟩
  ·rcases h'.2 with ⟨_, rfl⟩ | ⟨_, d, e, _⟩
   ·exact absurd z (lt_irrefl _)
   ·have := (List.getElem?_eq_some_iff.mp e).1
    omega
  ·rw [h'.1 i d z e] at h2
   omega
 ·exact z
theorem ye {ds : List aU} {c i c' i' : Nat} (h : pC ds c i) (h' : pC ds c' i') : c = c' /\ i = i' := by
 have e := Nat.le_antisymm (Hw h' h) (Hw h h')
 subst e
 refine ⟨?_, rfl⟩
 rcases h.2 with ⟨h1, h2⟩ | ⟨h1, d, e, h2⟩
 ·rcases h'.2 with ⟨h3, _⟩ | ⟨_, d, e, _⟩
  ·rw [h1, h3]
  ·have := (List.getElem?_eq_some_iff.mp e).1
   omega
 ·rcases h'.2 with ⟨_, h3⟩ | ⟨_, d', e', h3⟩
  ·have := (List.getElem?_eq_some_iff.mp e).1
   omega
  ·rw [e] at e'
   cases e'
   rw [<- h2, <- h3]
theorem Mp {ps : List aU} (g : ∀ p ∈ ps, lK p) (nd : (adS ps).Nodup) (h : pC ps 0 ps.length) : bH ps := by
 have z : ∀ (j : Nat) d, ps[j]? = some d -> iI (adS ps) j d = 0 := fun j d e => h.1 j d (List.getElem?_eq_some_iff.mp e).1 e
 have y : ∀ p ∈ ps, ∃ j, iI (adS ps) j p = 0 := fun p hp => by
  obtain ⟨i, hi, e⟩ := getElem_of_mem hp
  exact ⟨i, z i p (by rw [getElem?_eq_getElem hi, e])⟩
 refine ⟨?_, g, nd, fun p hp => ?_, fun p hp r hr hn u => ?_⟩
 ·rcases lt_or_ge 12 ps.length with k | k
  ·exact absurd (le_refl 12) (xO (z 12 ps[12] (getElem?_eq_getElem k))).1
  ·exact k
 ·obtain ⟨j, e⟩ := y p hp
  by_cases k : p.ad.dropLast = []
  ·exact .inl k
  ·exact .inr (Classical.byContradiction fun u => (xO e).2.1 ⟨k, u⟩)
 ·obtain ⟨j, e⟩ := y p hp
  exact (xO e).2.2 ⟨r, hr, hn, u⟩
theorem Gj {ps : List aU} (h : bH ps) : pC ps 0 ps.length := by
 refine ⟨fun j d hj e => ?_, .inl ⟨rfl, rfl⟩⟩
 have hm := mem_of_getElem? e
 have h12 := h.hi
 exact Ei Z1 (fun z => (h.up d hm).elim z.1 z.2) fun ⟨r, hr, hn, z⟩ => h.cl d hm r hr hn z
def mW (ps : List aU) (n : aU) : List aU := if dotted n.ad ∈ adS ps then ps.map fun p => if dotted p.ad = dotted n.ad then n else p else ps ++ [n]
def ut (ps : List aU) (z : Str) : List aU := ps.filter fun p => decide (dotted p.ad ≠ z)
theorem JX {ps : List aU} {n : aU} : adS (mW ps n) = if dotted n.ad ∈ adS ps then adS ps else adS ps ++ [dotted n.ad] := by
 unfold mW
 split
 ·unfold adS
  rw [map_map]
  refine map_congr_left fun p _ => ?_
  show dotted (if dotted p.ad = dotted n.ad then n else p).ad = dotted p.ad
  split
  ·rename_i h; exact h.symm
  ·rfl
 ·unfold adS
  rw [map_append]
  rfl
theorem Dy {ps : List aU} {n : aU} (h : (adS ps).Nodup) : (adS (mW ps n)).Nodup := by
 rw [JX]
 split
 ·exact h
 ·rename_i k
  exact CP h k
theorem Dc {ps : List aU} {n : aU} (h : ∀ p ∈ ps, lK p) (hn : lK n) : ∀ p ∈ mW ps n, lK p := by
 unfold mW
 split
 ·intro p hp
  obtain ⟨p', hp', rfl⟩ := mem_map.mp hp
  split
  ·exact hn
  ·exact h p' hp'
 ·intro p hp
  rcases mem_append.mp hp with k | k
  ·exact h p k
  ·rw [mem_singleton.mp k]; exact hn
theorem Jd {ps : List aU} {n : aU} : (mW ps n).length <= ps.length + 1 := by
 unfold mW
 split
 ·rw [length_map]; omega
 ·rw [length_append]; exact le_refl _
theorem vm {ps : List aU} {z : Str} (h : bH ps) (hz : ¬ ∃ p ∈ ps, fu p.ad = z) : bH (ut ps z) := by
 have sl : List.Sublist (ut ps z) ps := List.filter_sublist
 have sa : List.Sublist (adS (ut ps z)) (adS ps) := sl.map _
 refine ⟨le_trans sl.length_le h.hi, fun p hp => h.ok p (sl.subset hp), h.nd.sublist sa, fun p hp => ?_, fun p hp r hr hn u => h.cl p (sl.subset hp) r hr hn (sa.subset u)⟩
 have hm := sl.subset hp
 rcases h.up p hm with k | k
 ·exact .inl k
 ·by_cases k0 : p.ad.dropLast = []
  ·exact .inl k0
  refine .inr ?_
  obtain ⟨q, hq, e⟩ := mem_map.mp k
  refine mem_map.mpr ⟨q, mem_filter.mpr ⟨hq, decide_eq_true fun e2 => hz ⟨p, hm, ?_⟩⟩, e⟩
  unfold fu
  rw [if_neg k0, <- e]
  exact e2
inductive Rs where
 | ok (ps : List aU)
 | no (k : Nat) (v : V)
def IsD (ps : List aU) (r : Rs) : Prop := ∃ c i, pC ps c i /\ r = if c = 0 then .ok ps else .no (21 + c) (.int i)
def IsW (ps : List aU) (n : aU) (r : Rs) : Prop := IsD (mW ps n) r
def IsO (ps : List aU) (z : Str) (r : Rs) : Prop := (z ∉ adS ps /\ r = .no 21 (.str z)) \/ (z ∈ adS ps /\ (∃ p ∈ ps, fu p.ad = z) /\ r = .no 26 (.str z)) \/ (z ∈ adS ps /\ (¬ ∃ p ∈ ps, fu p.ad = z) /\ r = .ok (ut ps z))
def kW (k : Nat) : Str := if k = 22 then "many" else if k = 24 then "orphan" else if k = 25 then "clash" else if k = 21 then "none" else "drop"
def kF (k : Nat) : Str := if k = 21 \/ k = 26 then "address" else "at"
def IsK (k : Nat) : Prop := k = 21 \/ k = 22 \/ k = 24 \/ k = 25 \/ k = 26
structure K7 (K : Frag) (C : Nat -> Addr) : Prop where
 x : ∀ i, IsK i -> qW K (C i)
 s : ∀ i, IsK i -> Sub K (C i) (C 20)
 a : ∀ i, IsK i -> bW K (C i) (kF i)
 k : ∀ i j, IsK i -> 21 <= j -> j <= 26 -> kitOne K (.ref (C i)) (.ref (C j)) = some (decide (i = j))
def GR (C : Nat -> Addr) (H : Hp) (x : Addr) (k : Nat) (v : V) : Prop := ∃ q, H x = some (ExO false x (C k) (some q)) /\ H q = some (XdO q [(kF k, v)])
theorem QD {c : Nat} (h : c = 1 \/ c = 3 \/ c = 4) : kF (21 + c) = "at" := by unfold kF; rw [if_neg Z1]
theorem Kq (rs : List bV) : ∃ ns : List Str, uW rs = ns.map V.str /\ ∀ n, n ∈ ns ↔ ∃ r ∈ rs, r.nm ≠ "" /\ n = r.nm := by
 refine ⟨(rs.map fun r => r.nm).filter fun n => isE (.str n), ?_, fun n => ?_⟩
 ·unfold uW
  rw [show (rs.map fun r => V.str r.nm) = (rs.map fun r => r.nm).map V.str from by rw [map_map]; rfl, fM]
 ·have e : ∀ z : Str, isE (.str z) = true ↔ z ≠ "" := fun z => by
   unfold isE
   by_cases k : z = ""
   ·subst k; simp
   ·simp [k]
  constructor
  ·intro h
   obtain ⟨h1, h2⟩ := mem_filter.mp h
   obtain ⟨r, hr, rfl⟩ := mem_map.mp h1
   exact ⟨r, hr, (e _).mp h2, rfl⟩
  ·rintro ⟨r, hr, hn, rfl⟩
   exact mem_filter.mpr ⟨mem_map.mpr ⟨r, hr, rfl⟩, (e _).mpr hn⟩
theorem Jf {ds : List Q4} (h : ds.length <= 12) (g : ∀ d ∈ ds, G5 d) : lC (ds.map iz) := ⟨by rw [length_map]; exact h, fun r hr => by
 obtain ⟨d, hd, rfl⟩ := mem_map.mp hr
 exact (g d hd).good⟩
theorem rM {K : Frag} {C : Nat -> Addr} {H : Hp} {b : Addr} {ds : List Q4} {g : TG} {te : TE} {τ0 : L2.St} {Fin : List V -> Hp -> Prop} (ht : cX H b ds) (h12 : ds.length <= 12) (g5 : ∀ d ∈ ds, G5 d) (h0 : ∃ u, τ0 = [u])
  (hte : ∀ (p : Addr) (d : Q4) (u : Option V) (H' : Hp) (Q : L2.St -> V -> Hp -> Prop), TupAt H' p d -> G5 d -> (∀ a l H'', az H' H'' -> d8 C H'' a l (iz d) -> Q [some (.ref p)] (.ref a) H'') -> g (.ref p) [u] H' fun τ2 H2 => te τ2 H2 fun y H4 => Q τ2 y H4)
  (hfin : ∀ ys H', az H H' -> (∀ dz, H' dz = none -> rH C (upd H' dz (.lst ys)) dz (ds.map iz)) -> Fin ys H') : qN g Cv te (Itl K b) τ0 H Fin := by
 obtain ⟨xs, hx, hxl, hxt⟩ := ht
 refine jk (xs := xs) (fun τ => ∃ u, τ = [u]) (fun m v H' => ∃ d a l, ds[m]? = some d /\ v = V.ref a /\ d8 C H' a l (iz d))
  (fun m v H' H'' ⟨d, a, l, e, ev, ra⟩ s => ⟨d, a, l, e, ev, ra.same s⟩) (le_trans (show _ <= 12 by omega) Z0) (SqL.of hx) h0 (fun m x τ H2 Q2 hx s2 hS k2 => ?_) (fun zs H2 s2 hzl hzs => ?_)
 ·obtain ⟨u, rfl⟩ := hS
  have hm : m < ds.length := by rw [<- hxl]; exact (List.getElem?_eq_some_iff.mp hx).1
  obtain ⟨p, e2, tp⟩ := hxt m _ (getElem?_eq_getElem hm)
  obtain rfl : x = .ref p := by rw [hx] at e2; exact Option.some.inj e2
  exact hte p _ u H2 Q2 (s2 _ _ tp) (g5 _ (getElem_mem hm)) fun a l H3 s3 ra => k2 _ _ H3 ⟨_, rfl⟩ s3 ⟨_, a, l, getElem?_eq_getElem hm, rfl, ra⟩
 ·refine hfin zs H2 s2 fun dz hdz => ⟨zs, ak, by rw [length_map, hzl, hxl], fun m r e => ?_⟩
  rw [getElem?_map] at e
  cases ed : ds[m]? with
  | none => rw [ed] at e; cases e
  | some d =>
   rw [ed] at e
   cases e
   have hm : m < zs.length := by rw [hzl, hxl]; exact (List.getElem?_eq_some_iff.mp ed).1
   obtain ⟨d2, a, l, e1, e2, ra⟩ := hzs m _ (getElem?_eq_getElem hm)
   rw [ed] at e1
   cases e1
   exact ⟨a, l, by rw [getElem?_eq_getElem hm, e2], ra.same (az.new hdz)⟩
def rO (C : Addr) : Sp := fun vs H Q _ => ∃ (x : Addr) (n : Int), vs = [.ref x, .int n] /\ H x = some (ExO true x C none) /\ n.natAbs.log2 < 1920 /\ ∀ p, H p = none -> p ≠ x -> Q .non (upd (upd H p (XdO p [("at", .int n)])) x (ExO true x C (some p)))
def wu (C : Nat -> Addr) : Sp := fun vs H Q _ => ∃ (p l la : Addr) (ys zs : List Str) (rs : List bV), vs = [.ref p, .ref la] /\ cY C H p (dotted ys) l rs /\ bO ys /\ H la = some (.lst (zs.map V.str)) /\ ∀ b, (b = true ↔ ys.dropLast ≠ [] /\ dotted ys.dropLast ∉ zs) -> Pur (.bl b) H Q
def zT (C : Nat -> Addr) : Sp := fun vs H Q _ => ∃ (p l la : Addr) (ys zs : List Str) (rs : List bV), vs = [.ref p, .ref la] /\ cY C H p (dotted ys) l rs /\ bO ys /\ lC rs /\ H la = some (.lst (zs.map V.str)) /\ ∀ b, (b = true ↔ ∃ r ∈ rs, r.nm ≠ "" /\ dotted ys ++ "." ++ r.nm ∈ zs) -> Pur (.bl b) H Q
def zq (C : Nat -> Addr) : Sp := fun vs H Q E => ∃ (l : Addr) (ps : List aU), vs = [.ref l] /\ qQ C H l ps /\ ps.length <= 200 /\ (∀ p ∈ ps, lK p) /\ (adS ps).Nodup /\ (∀ c i, pC ps c i -> (c = 0 -> Pur .non H Q) /\ (c ≠ 0 -> ∀ x H', az H H' -> GR C H' x (21 + c) (.int i) -> E (.ref x) none H'))
def tG (C : Nat -> Addr) : Sp := fun vs H Q E => ∃ (x dx d : Addr) (ps : List aU) (xs : List V), vs = [.ref x, .ref d] /\ H x = some (.ins (C 8) dx []) /\ H d = some (.lst xs) /\ mU C H xs ps /\ ps.length <= 200 /\ (∀ p ∈ ps, lK p) /\ (adS ps).Nodup /\
 ∀ c i, pC ps c i -> (c = 0 -> ∀ l H', H l = none -> SameBut x H H' -> Ec C H' x l -> H' l = some (.lst xs) -> Q .non H') /\ (c ≠ 0 -> ∀ e H', az H H' -> GR C H' e (21 + c) (.int i) -> E (.ref e) none H')
def Ends (C : Nat -> Addr) (D : Rs -> Prop) (H : Hp) (Q : VK) (E : XK) : Prop := ∀ r, D r -> (∀ ps, r = .ok ps -> ∀ h l H', az H H' -> cC C H' h l ps -> Q (.ref h) H') /\ (∀ k v, r = .no k v -> ∀ x H', az H H' -> GR C H' x k v -> E (.ref x) none H')
def Gf (C : Nat -> Addr) : Sp := fun vs H Q E => ∃ (h l p lr : Addr) (ps : List aU) (n : aU), vs = [.ref h, .ref p] /\ cC C H h l ps /\ bH ps /\ cY C H p (dotted n.ad) lr n.rs /\ lK n /\ Ends C (IsW ps n) H Q E
def wk (C : Nat -> Addr) : Sp := fun vs H Q E => ∃ (h l : Addr) (ps : List aU) (z : Str), vs = [.ref h, .str z] /\ cC C H h l ps /\ bH ps /\ z.length <= 1000 /\ Ends C (IsO ps z) H Q E
def CQ (C : Nat -> Addr) : Sp := fun vs H Q _ => ∃ (x : Addr) (k : Nat) (v : V), vs = [.ref x] /\ IsK k /\ GR C H x k v /\ ∀ p H', az H H' -> H' p = some (.tup [.str (kW k), v]) -> Q (.ref p) H'
def xx (C : Nat -> Addr) : Sp := fun vs H Q _ => ∃ (p : Addr) (d : Q4), vs = [.ref p] /\ TupAt H p d /\ G5 d /\ ∀ a l H', az H H' -> H a = none -> H l = none -> d8 C H' a l (iz d) -> Q (.ref a) H'
def Bm (C : Nat -> Addr) : Sp := fun vs H Q _ => ∃ (H0 : Hp) (R la : Addr) (as : List (List Str)) (L : Nat -> Addr) (rs : Nat -> List Q4), vs = [.ref la, .ref R] /\ H la = some (.lst ((as.map dotted).map V.str)) /\ cR as /\ DictAt H0 H R as as.length L rs /\ lg as rs /\
 ∀ d H1 xs ps, az H H1 -> H1 d = none -> mU C H1 xs ps -> ps.length = as.length -> (∀ (i : Nat) p, ps[i]? = some p -> as[i]? = some p.ad /\ p.rs = (rs i).map iz) -> Q (.ref d) (upd H1 d (.lst xs))
def vP (e : D3) : List Str := (e.ds.map Q4.nm).filter fun n => decide (n ≠ "")
def Ak : Sp := fun vs H Q _ => ∃ (v : V) (e : D3), vs = [v] /\ qY H v e /\ e.ds.length <= 12 /\ ∀ b H', H b = none -> az H H' -> H' b = some (.lst ((vP e).map V.str)) -> Q (.ref b) H'
def FP (H : Hp) (p : Addr) (es : List D3) : Rs -> Prop
 | .no k v => H p = some (.tup [.str (kW k), v])
 | .ok _ => ∃ b, H p = some (.tup [.str "good", .ref b]) /\ lM H b es
def IW : Sp := fun vs H Q _ => ∃ (l : Addr) (es : List D3), vs = [.ref l] /\ lM H l es /\ es.length <= 200 /\ (∀ e ∈ es, G3 e) /\ ∀ r p H', IsD (es.map bh) r -> az H H' -> FP H' p es r -> Q (.ref p) H'
def Dp (es : List D3) (z : Str) : List D3 := es.filter fun e => decide (dotted e.ad ≠ z)
def Hk : Sp := fun vs H Q _ => ∃ (l : Addr) (es : List D3) (z : Str), vs = [.ref l, .str z] /\ lM H l es /\ es.length <= 200 /\ (∀ e ∈ es, G3 e) /\ ∀ r p H', IsO (es.map bh) z r -> az H H' -> FP H' p (Dp es z) r -> Q (.ref p) H'
def xM (C : Nat -> Addr) : Sp := fun vs H Q _ => ∃ (l : Addr) (es : List D3), vs = [.ref l] /\ lM H l es /\ es.length <= 200 /\ (∀ e ∈ es, G3 e) /\ ∀ b H', H b = none -> az H H' -> H' b = some (.lst (((es.map bh).map jd).map V.str)) -> Q (.ref b) H'
def Ho (C : Nat -> Addr) (H : Hp) (v : V) (q : Addr) : Rs -> Prop
 | .no k u => v = .non /\ H q = some (.tup [.str (kW k), u])
 | .ok ps => ∃ h l lt, v = .ref h /\ H q = some (.tup [.str "good", .ref lt]) /\ H lt = some (.lst ((ps.map jd).map V.str)) /\ cC C H h l ps
def GX (C : Nat -> Addr) : Sp := fun vs H Q _ => ∃ (h l : Addr) (ps : List aU) (a b : V) (D : Rs -> Prop), vs = [.ref h, a, b] /\ cC C H h l ps /\ bH ps /\
 ((∃ e, qY H a e /\ G3 e /\ D = IsW ps (bh e)) \/ (a = .non /\ ∃ z : Str, b = .str z /\ z.length <= 1000 /\ D = IsO ps z)) /\
 ∀ r p v q H', D r -> az H H' -> H' p = some (.tup [v, .ref q]) -> Ho C H' v q r -> Q (.ref p) H'
def Aq : Sp := fun vs H Q _ => ∃ (l lw : Addr) (c : Int) (es : List D3) (ws : List Str), vs = [.ref l, .int c, .ref lw] /\ lM H l es /\ es ≠ [] /\ bH (es.map bh) /\ (∀ e ∈ es, G3 e) /\ H lw = some (.lst (ws.map V.str)) /\ ws.length = 8 /\ (∀ w ∈ ws, cQ w) /\ ∀ p H' e, az H H' -> qY H' (.ref p) e -> G3 e -> Q (.ref p) H'
def zU (H : Hp) (R : Addr) (es : List D3) : Prop := ∃ kvs : List (Key × V), H R = some (.dK kvs) /\ ∀ (i : Nat) e, es[i]? = some e -> ∃ b, iG kvs (.inr (dotted e.ad)) = some (.ref b) /\ cX H b e.ds
def wJ : Sp := fun vs H Q _ => ∃ (la R : Addr) (es : List D3) (i : Nat) (e : D3), vs = [.str (dotted e.ad), .ref la, .ref R] /\ H la = some (.lst ((adE es).map V.str)) /\ es.length <= 12 /\ (∀ e ∈ es, G3 e) /\ zU H R es /\ es[i]? = some e /\
 ∀ b H' zs, H b = none -> az H H' -> zs.Perm ((adE es).filter fun y => decide (y ∈ vp e.ad e.ds)) -> sortedS zs = true -> H' b = some (.lst (zs.map V.str)) -> Q (.ref b) H'
def zY (C : Nat -> Addr) : Sp := fun vs H Q _ => ∃ (h l ls : Addr) (es : List D3), vs = [.ref h, .ref ls] /\ cC C H h l (es.map bh) /\ bH (es.map bh) /\ lM H ls es /\ (∀ e ∈ es, G3 e) /\ Pur (.bl true) H Q
theorem yC {α : Type} {xs : List V} {ps : List α} {p : Nat -> Bool} {F : α -> Bool} (hl : xs.length = ps.length) (hp : ∀ (i : Nat) q, ps[i]? = some q -> p i = F q) : ∀ n, n <= ps.length ->
  (((List.range n).filter p).map fun i => xs.getD i .non).length = ((ps.take n).filter F).length /\ ∀ (j : Nat) q, ((ps.take n).filter F)[j]? = some q -> ∃ (i : Nat) (v : V), ps[i]? = some q /\ xs[i]? = some v /\ (((List.range n).filter p).map fun i => xs.getD i .non)[j]? = some v
 | 0, _ => ⟨Z2, fun j q e => by simp at e⟩
 | n + 1, hn => by
  obtain ⟨h1, h2⟩ := yC hl hp n Z1
  have hq : ps[n]? = some ps[n] := getElem?_eq_getElem Z1
  have hx : xs[n]? = some xs[n] := getElem?_eq_getElem Z1
  rw [range_succ, filter_append, map_append, take_succ, hq, filter_append]
  have e := hp n _ hq
  cases hF : F ps[n] with
  | false =>
   rw [hF] at e
   have e1 : ([n].filter p).map (fun i => xs.getD i .non) = [] := by simp [e]
   have e2 : (some ps[n]).toList.filter F = [] := by simp [hF]
   rw [e1, e2, append_nil, append_nil]
   exact ⟨h1, h2⟩
  | true =>
   rw [hF] at e
   have e1 : ([n].filter p).map (fun i => xs.getD i .non) = [xs[n]] := by simp [e, List.getD, hx]
   have e2 : (some ps[n]).toList.filter F = [ps[n]] := by simp [hF]
   rw [e1, e2]
   refine ⟨by rw [length_append, length_append, h1]; rfl, fun j q ej => ?_⟩
   rcases lt_or_ge j ((ps.take n).filter F).length with z | z
   ·rw [getElem?_append_left z] at ej
    obtain ⟨i, v, a1, a2, a3⟩ := h2 j q ej
    exact ⟨i, v, a1, a2, by rw [getElem?_append_left Z1]; exact a3⟩
   ·rw [getElem?_append_right z] at ej
    have hj : j - ((ps.take n).filter F).length = 0 := by
     have := (List.getElem?_eq_some_iff.mp ej).1
     simp at this
     omega
    rw [hj] at ej
    cases ej
    exact ⟨n, _, hq, hx, by rw [getElem?_append_right Z1, h1, hj]; rfl⟩
theorem Jm (ns : List Str) : ((List.range ns.length).filter fun i => decide (ns.getD i "" ≠ "")).map (fun i => V.str (ns.getD i "")) = (ns.filter fun n => decide (n ≠ ("" : Str))).map V.str := by
 have e : ns = (List.range ns.length).map fun i => ns.getD i "" := by
  apply ext_getElem
  ·simp
  ·intro i h1 h2
   simp [h1]
 conv => rhs; rw [e, List.filter_map, map_map]
 rfl
theorem Ay {ys : List Str} : Txt.join ("." : Str) ys.dropLast = fu ys := by
 unfold fu
 split
 ·rename_i h; rw [h]; rfl
 ·rfl
theorem Mw {ds : List Q4} (h : ∀ d ∈ ds, G5 d) : (ds.flatMap kY).length <= 4 * ds.length := by
 induction ds with
 | nil => simp
 | cons r t ih =>
  rw [List.flatMap_cons, length_append, length_cons]
  have h1 : (kY r).length <= 4 := by
   rw [<- (h r Z2).named]
   exact rC (h r Z2).good
  have h2 := ih fun r hr => h r (mem_cons_of_mem _ hr)
  omega
theorem tZ {e : D3} {n : Str} : n ∈ vP e ↔ ∃ r ∈ (bh e).rs, r.nm ≠ "" /\ n = r.nm := by
 constructor
 ·intro h
  obtain ⟨h1, h2⟩ := mem_filter.mp h
  obtain ⟨d, hd, rfl⟩ := mem_map.mp h1
  exact ⟨iz d, mem_map.mpr ⟨d, hd, rfl⟩, of_decide_eq_true h2, rfl⟩
 ·rintro ⟨r, hr, hn, rfl⟩
  obtain ⟨d, hd, rfl⟩ := mem_map.mp hr
  exact mem_filter.mpr ⟨mem_map.mpr ⟨d, hd, rfl⟩, decide_eq_true hn⟩
theorem Bd {ys : List Str} (g : bO ys) : (ys.dropLast.map (·.length)).sum + ys.dropLast.length * (("." : Str)).length <= 16777216 := by
 have h1 : (ys.dropLast.map (·.length)).sum <= ys.dropLast.length * 8 := nq fun y hy => (g.nm y (by rw [List.dropLast_eq_take] at hy; exact mem_of_mem_take hy)).hi
 have h2 : ys.dropLast.length <= 3 := by rw [List.length_dropLast]; exact le_trans (sub_le _ _) g.hi
 rw [show (("." : Str)).length = 1 from by decide +kernel]
 omega
theorem HS {ps ps' : List aU} {n : aU} (g : bH ps) (gn : lK n) (h : IsW ps n (.ok ps')) : bH ps' := by
 obtain ⟨c, i, hd, e⟩ := h
 by_cases hc : c = 0
 ·subst hc
  rw [if_pos rfl] at e
  cases e
  rcases hd.2 with ⟨_, rfl⟩ | ⟨z, _⟩
  ·exact Mp (Dc g.ok gn) (Dy g.nd) hd
  ·omega
 ·rw [if_neg hc] at e
  cases e
theorem Qp {ps : List aU} {n : aU} {k : Nat} {v : V} (h : IsW ps n (.no k v)) : IsK k := by
 obtain ⟨c, i, hd, e⟩ := h
 by_cases hc : c = 0
 ·rw [if_pos hc] at e
  cases e
 ·rw [if_neg hc] at e
  cases e
  rcases hd.2 with ⟨z, _⟩ | ⟨z, _⟩
  ·exact absurd z hc
  ·unfold IsK; omega
theorem LR {ps ps' : List aU} {z : Str} (g : bH ps) (h : IsO ps z (.ok ps')) : bH ps' := by
 rcases h with ⟨_, e⟩ | ⟨_, _, e⟩ | ⟨_, h, e⟩
 ·cases e
 ·cases e
 ·cases e; exact vm g h
theorem Lg {ps : List aU} {z : Str} {k : Nat} {v : V} (h : IsO ps z (.no k v)) : IsK k := by
 rcases h with ⟨_, e⟩ | ⟨_, _, e⟩ | ⟨_, h, e⟩
 ·cases e; exact .inl rfl
 ·cases e; exact .inr (.inr (.inr (.inr rfl)))
 ·cases e
theorem JP {H : Hp} {R : Addr} {kvs : List (Key × V)} {z : Str} {b : Addr} (hk : H R = some (.dK kvs)) (hv : iG kvs (.inr z) = some (.ref b)) : yH H R (V.str z) (some (.ref b)) := by
 have := yH.k (k := .inr z) hk
 rw [hv] at this
 exact this
theorem CW {k : Key} : ∀ (ps kvs : List (Key × V)), (∀ (j : Nat) p, ps[j]? = some p -> p.1 ≠ k) -> iG (ps.foldl (fun kvs p => putK kvs p.1 p.2) kvs) k = iG kvs k
 | [], _, _ => rfl
 | p :: ps, kvs, h => by
  rw [foldl_cons, CW ps _ fun j q e => h (j + 1) q (by simpa using e), u5, if_neg (fun z => h 0 p rfl z.symm)]
theorem zp {k : Key} {v : V} : ∀ (ps kvs : List (Key × V)) (i : Nat), ps[i]? = some (k, v) -> (∀ (j : Nat) p, i < j -> ps[j]? = some p -> p.1 = k -> False) -> iG (ps.foldl (fun kvs p => putK kvs p.1 p.2) kvs) k = some v
 | [], _, _, h, _ => by simp at h
 | p :: ps, kvs, 0, h, hn => by
  cases h
  rw [foldl_cons, CW ps _ (fun j q e z => hn (j + 1) q Z1 (by simpa using e) z), u5, if_pos rfl]
 | p :: ps, kvs, i + 1, h, hn => by
  rw [foldl_cons]
  exact zp ps _ i (by simpa using h) fun j q hj e => hn (j + 1) q Z1 (by simpa using e)
theorem wW {ps : List aU} (nd : (adS ps).Nodup) {i j : Nat} {p p' : aU} (h : ps[i]? = some p) (h' : ps[j]? = some p') (e : dotted p.ad = dotted p'.ad) : p = p' := by
 have k1 : (adS ps)[i]? = some (dotted p.ad) := by unfold adS; rw [getElem?_map, h]; rfl
 have k2 : (adS ps)[j]? = some (dotted p'.ad) := by unfold adS; rw [getElem?_map, h']; rfl
 have hij : i = j := (getElem?_inj (List.getElem?_eq_some_iff.mp k1).1 nd).mp (by rw [k1, k2, e])
 subst hij
 rw [h] at h'
 exact Option.some.inj h'
theorem zU.same {H H' : Hp} {R : Addr} {es : List D3} (h : zU H R es) (s : az H H') : zU H' R es := by
 obtain ⟨kvs, hk, hv⟩ := h
 exact ⟨kvs, s _ _ hk, fun i e ed => by obtain ⟨b, h1, h2⟩ := hv i e ed; exact ⟨b, h1, h2.same s⟩⟩
theorem zV {H : Hp} {xs : List V} {es : List D3} {c k : Int} (tx : SX H xs es) (h : es ≠ []) : ∃ (e : D3) (t : Addr), e ∈ es /\ atI xs (pick c k xs.length) = some (V.ref t) /\ ∃ b, H t = some (.tup [.str (dotted e.ad), .ref b]) := by
 have hl : 0 < (xs.length : Int) := by have := length_pos_iff.mpr h; rw [tx.1]; omega
 have h1 := gR c k hl
 have h2 := jK c k hl
 have h3 : (pick c k xs.length).toNat < xs.length := by omega
 obtain ⟨d, ed, t, b, ev, ht, hb⟩ := tx.at (getElem?_eq_getElem h3)
 have e : pick c k xs.length = (((pick c k xs.length).toNat : Nat) : Int) := by omega
 refine ⟨d, t, mem_of_getElem? ed, ?_, b, ht⟩
 rw [e]
 exact aF (by rw [getElem?_eq_getElem h3, ev])
theorem five {ys : List Str} {w w2 z : Str} (g : bO ys) (nw : cQ w) (nw2 : cQ w2) (h : z ∈ [dotted ys, dotted ys, w, dotted ys ++ "." ++ w, w ++ "." ++ w2]) : ∃ zs, p8 zs /\ z = dotted zs := by
 simp only [mem_cons, not_mem_nil, or_false] at h
 have g1 := Am nw
 rcases h with rfl | rfl | rfl | rfl | rfl
 ·exact ⟨ys, ⟨g.lo, le_trans g.hi Z0, g.nm⟩, rfl⟩
 ·exact ⟨ys, ⟨g.lo, le_trans g.hi Z0, g.nm⟩, rfl⟩
 ·exact ⟨[z], ⟨g1.lo, by show 1 <= 4; decide, g1.nm⟩, (cL z).symm⟩
 ·refine ⟨ys ++ [w], ⟨Z2, by rw [length_append]; exact Nat.succ_le_succ g.hi, fun y hy => ?_⟩, iD g.lo⟩
  rcases mem_append.mp hy with k | k
  ·exact g.nm y k
  ·rw [mem_singleton.mp k]; exact nw
 ·refine ⟨[w] ++ [w2], ⟨Z2, by show 2 <= 4; decide, fun y hy => ?_⟩, ?_⟩
  ·rcases mem_append.mp hy with k | k
   ·rw [mem_singleton.mp k]; exact nw
   ·rw [mem_singleton.mp k]; exact nw2
  ·rw [<- iD Z2, cL]
theorem Qn {ys : List Str} (g : p8 ys) : Txt.count (dotted ys) ("." : Str) = (ys.length : Int) - 1 := by
 have hs := bK ys g.lo g.nm
 have h1 : 1 <= (dotted ys).length := by
  obtain ⟨c, hc, _⟩ := lq g.lo g.nm
  have := List.length_pos_of_mem hc
  rw [length_toList] at this
  exact this
 have hl := congrArg List.length hs
 unfold Txt.split at hl
 have hd : (("." : Str)).length = 1 := by decide +kernel
 rw [if_neg (by rw [hd, decide_eq_false Z1, decide_eq_false (zM _)]; decide)] at hl
 unfold Txt.count
 by_cases he : (Builtin.Str.occurrences (dotted ys) "." 0 (dotted ys).length ((dotted ys).length + 1)).isEmpty = true
 ·rw [if_pos he] at hl
  have hl : 1 = ys.length := hl
  rw [List.isEmpty_iff.mp he, <- hl]
  rfl
 ·rw [if_neg he, length_partsBetween] at hl
  omega
theorem Fb {es : List D3} (h : bH (es.map bh)) (hg : ∀ e ∈ es, bO e.ad) : cR (es.map D3.ad) := by
 have e : (es.map D3.ad).map dotted = adS (es.map bh) := by rw [ug, map_map]; rfl
 refine ⟨?_, fun a ha => ?_, by rw [e]; exact h.nd, fun a ha => ?_⟩
 ·have := h.hi
  rw [length_map] at this ⊢
  exact this
 ·obtain ⟨d, hd, rfl⟩ := mem_map.mp ha
  exact hg d hd
 ·obtain ⟨d, hd, rfl⟩ := mem_map.mp ha
  have gd := hg d hd
  rcases h.up (bh d) (mem_map.mpr ⟨d, hd, rfl⟩) with k | k
  ·exact .inl k
  ·by_cases k0 : d.ad.dropLast = []
   ·exact .inl k0
   obtain ⟨d2, hd2, e2⟩ := mem_map.mp (ug es ▸ k)
   have g2 : bO d.ad.dropLast := ⟨k0, by rw [List.length_dropLast]; exact le_trans (sub_le _ _) gd.hi, fun y hy => gd.nm y (by rw [List.dropLast_eq_take] at hy; exact mem_of_mem_take hy)⟩
   exact .inr (mem_map.mpr ⟨d2, hd2, Cj (hg d2 hd2) g2 e2⟩)
theorem cX.take {H : Hp} {l : Addr} {ds : List Q4} {xs : List V} (h : cX H l ds) (hx : H l = some (.lst xs)) {G : Addr} {n : Nat} {o : HO} (hG : H G = none) (ho : o = .lst (xs.take n)) : cX (upd H G o) G (ds.take n) := by
 subst ho
 obtain ⟨ys, hy, hl, ht⟩ := h
 rw [hx] at hy
 cases hy
 refine ⟨_, ak, by rw [length_take, length_take, hl], fun i d e => ?_⟩
 rw [getElem?_take] at e
 by_cases k : i < n
 ·rw [if_pos k] at e
  obtain ⟨p, e1, t⟩ := ht i d e
  exact ⟨p, by rw [getElem?_take, if_pos k]; exact e1, (az.new hG) _ _ t⟩
 ·rw [if_neg k] at e; cases e
theorem KY {H : Hp} {F p1 : Addr} {d1 : Q4} (hF : H F = some (.lst [.ref p1])) (h1 : TupAt H p1 d1) : cX H F [d1] := ⟨_, hF, rfl, fun i d e => by
 match i, e with
 | 0, e => cases e; exact ⟨_, rfl, h1⟩
 | n + 1, e => simp at e⟩
theorem Kz {H : Hp} {F p1 p2 : Addr} {d1 d2 : Q4} (hF : H F = some (.lst [.ref p1, .ref p2])) (h1 : TupAt H p1 d1) (h2 : TupAt H p2 d2) : cX H F [d1, d2] := ⟨_, hF, rfl, fun i d e => by
 match i, e with
 | 0, e => cases e; exact ⟨_, rfl, h1⟩
 | 1, e => cases e; exact ⟨_, rfl, h2⟩
 | n + 2, e => simp at e⟩
theorem Gp (xs : List V) {k : Int} (h : 0 <= k) : fc xs none (some k) = xs.take k.toNat := by
 have e := Cg xs k.toNat
 rw [show ((k.toNat : Nat) : Int) = k from by omega] at e
 exact e
theorem J4 {ps : List aU} {r r' : Rs} (h : IsD ps r) (h' : IsD ps r') : r = r' := by
 obtain ⟨c, i, hd, rfl⟩ := h
 obtain ⟨c', i', hd', rfl⟩ := h'
 obtain ⟨rfl, rfl⟩ := ye hd hd'
 rfl
theorem J5 {ps : List aU} {z : Str} {r r' : Rs} (h : IsO ps z r) (h' : IsO ps z r') : r = r' := by
 rcases h with ⟨a, rfl⟩ | ⟨a, b, rfl⟩ | ⟨a, b, rfl⟩ <;> rcases h' with ⟨c, rfl⟩ | ⟨c, d, rfl⟩ | ⟨c, d, rfl⟩
 all_goals first | rfl | exact absurd c a | exact absurd a c | exact absurd d b | exact absurd b d
def sS (es : List D3) (n : D3) : List D3 := if dotted n.ad ∈ adE es then es.map fun e => if dotted e.ad = dotted n.ad then n else e else es ++ [n]
theorem Gs (es : List D3) (n : D3) : (sS es n).map bh = mW (es.map bh) (bh n) := by
 unfold sS mW
 rw [ug]
 show _ = if dotted n.ad ∈ adE es then _ else _
 split
 ·rw [map_map, map_map]
  refine map_congr_left fun e _ => ?_
  show bh (if dotted e.ad = dotted n.ad then n else e) = if dotted e.ad = dotted n.ad then bh n else bh e
  split <;> rfl
 ·rw [map_append]
  rfl
theorem Gm {es : List D3} {n : D3} (h : ∀ e ∈ es, G3 e) (hn : G3 n) : ∀ e ∈ sS es n, G3 e := by
 unfold sS
 split
 ·intro p hp
  obtain ⟨p', hp', rfl⟩ := mem_map.mp hp
  split
  ·exact hn
  ·exact h p' hp'
 ·intro p hp
  rcases mem_append.mp hp with k | k
  ·exact h p k
  ·rw [mem_singleton.mp k]; exact hn
theorem Io (es : List D3) (n : D3) : (sS es n).length <= es.length + 1 := by
 unfold sS
 split
 ·rw [length_map]; omega
 ·rw [length_append]; exact le_refl _
theorem J7 (es : List D3) (z : Str) : (Dp es z).map bh = ut (es.map bh) z := by
 unfold Dp ut
 rw [List.filter_map]
 rfl
def mkE (as : List (List Str)) (rs : Nat -> List Q4) : List D3 := as.mapIdx fun i a => ⟨a, rs i⟩
theorem uH {as : List (List Str)} {rs : Nat -> List Q4} {i : Nat} {e : D3} (h : (mkE as rs)[i]? = some e) : as[i]? = some e.ad /\ e.ds = rs i := by
 unfold mkE at h
 rw [List.getElem?_mapIdx] at h
 cases ea : as[i]? with
 | none => rw [ea] at h; cases h
 | some a => rw [ea] at h; cases h; exact ⟨rfl, rfl⟩
theorem qD (as : List (List Str)) (rs : Nat -> List Q4) : (mkE as rs).length = as.length := List.length_mapIdx
theorem Ky {as : List (List Str)} {rs : Nat -> List Q4} (g : cR as) (ok : lg as rs) : ∀ e ∈ mkE as rs, G3 e := fun e he => by
 obtain ⟨i, hi, ei⟩ := getElem_of_mem he
 obtain ⟨h1, h2⟩ := uH (e := e) (i := i) (by rw [getElem?_eq_getElem hi, ei])
 have hi2 := (List.getElem?_eq_some_iff.mp h1).1
 exact ⟨g.ok _ (mem_of_getElem? h1), by rw [h2]; exact ok.hi i hi2, fun d hd => G4.g5 (ok.g4 i hi2 d (h2 ▸ hd))⟩
theorem Nb (as : List (List Str)) (rs : Nat -> List Q4) : adS ((mkE as rs).map bh) = as.map dotted := by
 refine Lj (by rw [length_map]; exact qD as rs) fun i p e => ?_
 rw [getElem?_map] at e
 cases ed : (mkE as rs)[i]? with
 | none => rw [ed] at e; cases e
 | some d => rw [ed] at e; cases e; exact (uH ed).1
theorem Ny {as : List (List Str)} {rs : Nat -> List Q4} (g : cR as) (ok : lg as rs) : bH ((mkE as rs).map bh) := by
 refine Gn g (by rw [length_map]; exact qD as rs) (Nb as rs) fun p hp => ?_
 obtain ⟨e, he, rfl⟩ := mem_map.mp hp
 obtain ⟨i, hi, ei⟩ := getElem_of_mem he
 obtain ⟨h1, h2⟩ := uH (e := e) (i := i) (by rw [getElem?_eq_getElem hi, ei])
 have ge := Ky g ok e he
 refine ⟨mem_of_getElem? h1, ge.good, fun r hr hn => ?_⟩
 obtain ⟨d, hd, rfl⟩ := mem_map.mp hr
 have g5 := ge.g5 d hd
 refine ok.cl i e.ad h1 d (h2 ▸ hd) ?_
 rcases lt_or_ge d.so 5 with z | z
 ·exact z
 ·exact absurd (g5.h0 (Nat.le_antisymm g5.h5 z)) hn
theorem FP.same {H H' : Hp} {p : Addr} {es : List D3} {r : Rs} (h : FP H p es r) (s : az H H') : FP H' p es r := by
 cases r with
 | no k v => exact s _ _ h
 | ok ps => obtain ⟨b, h1, h2⟩ := h; exact ⟨b, s _ _ h1, h2.same s⟩
def MK (r : Rs) : Prop := ∀ k v, r = .no k v -> dM v = true /\ kW k ≠ "good"
theorem K8 {k : Nat} (h : IsK k) : kW k ≠ "good" := by
 rcases h with rfl | rfl | rfl | rfl | rfl
 all_goals decide +kernel
theorem M7 {ps : List aU} {r : Rs} (h : IsD ps r) : MK r := fun k v e => by
 obtain ⟨c, i, hd, e2⟩ := h
 rw [e] at e2
 by_cases hc : c = 0
 ·rw [if_pos hc] at e2; cases e2
 ·rw [if_neg hc] at e2
  cases e2
  rcases hd.2 with ⟨z, _⟩ | ⟨z, _⟩
  ·exact absurd z hc
  ·exact ⟨rfl, K8 (by unfold IsK; omega)⟩
theorem Mm {ps : List aU} {z : Str} {r : Rs} (h : IsO ps z r) : MK r := fun k v e => by
 subst e
 refine ⟨?_, K8 (Lg h)⟩
 rcases h with ⟨_, e⟩ | ⟨_, _, e⟩ | ⟨_, h, e⟩
 ·cases e; rfl
 ·cases e; rfl
 ·cases e
def OkE (r : Rs) (es : List D3) : Prop := ∀ ps, r = .ok ps -> ps = es.map bh /\ bH (es.map bh) /\ ∀ e ∈ es, G3 e
theorem Dm {K : Frag} {H : Hp} {v w : V} {e d : D3} (h : qY H v e) (h' : qY H w d) : xn K H 3 v w := by
 obtain ⟨t, b, rfl, ht, xs, hx, hxl, hxt⟩ := h
 obtain ⟨u, c, rfl, hu, ys, hy, hyl, hyt⟩ := h'
 refine .tup (SqT.of ht) (SqT.of hu) fun i x y ex ey => ?_
 match i, ex, ey with
 | 0, ex, ey => cases ex; cases ey; exact .str _ _
 | 1, ex, ey =>
  cases ex; cases ey
  refine .lst (SqL.of hx) (SqL.of hy) fun j x y ex ey => ?_
  have h1 := (List.getElem?_eq_some_iff.mp ex).1
  have h2 := (List.getElem?_eq_some_iff.mp ey).1
  obtain ⟨p, e1, tp⟩ := hxt j _ (getElem?_eq_getElem Z1)
  obtain ⟨q, e2, tq⟩ := hyt j _ (getElem?_eq_getElem Z1)
  rw [ex] at e1
  rw [ey] at e2
  cases e1; cases e2
  refine .tup (SqT.of tp) (SqT.of tq) fun m x y ex ey => ?_
  match m, ex, ey with
  | 0, ex, ey => cases ex; cases ey; exact .str _ _
  | 1, ex, ey => cases ex; cases ey; exact .str _ _
  | 2, ex, ey => cases ex; cases ey; exact .str _ _
  | 3, ex, ey => cases ex; cases ey; exact .str _ _
  | n + 4, ex, ey => simp at ex
 | n + 2, ex, ey => simp at ex
theorem Jy {K : Frag} {H : Hp} {a b : Addr} {xs : List V} (ha : H a = some (.tup xs)) (hb : H b = some (.tup xs)) (h : ∀ v ∈ xs, dM v = true \/ ∃ p, v = .ref p) : DSq K H a b :=
 ⟨0, xs, xs, Z0, rfl, .inl ⟨SqT.of ha, SqT.of hb⟩, fun i x y ex ey => by rw [ex] at ey; cases ey; exact zB (h x (mem_of_getElem? ex))⟩
theorem Ml {A B C D E : Type} {P T : A -> B -> C -> D -> E -> Prop} {G : Prop} (h : (∀ a b c d e, P a b c d e -> T a b c d e) -> G) (k : ∀ a b c d e, P a b c d e -> T a b c d e) : G := h k
theorem N7 {A B : Type} {P T : A -> B -> Prop} {G : Prop} (h : (∀ a b, P a b -> T a b) -> G) (k : ∀ a b, P a b -> T a b) : G := h k
theorem Hs {ps ps' : List aU} (h : IsD ps (.ok ps')) : ps' = ps := by
 obtain ⟨c, i, _, e⟩ := h
 by_cases hc : c = 0
 ·rw [if_pos hc] at e; cases e; rfl
 ·rw [if_neg hc] at e; cases e
section
variable {K : Frag} {HE C D : Addr}
theorem wQ {nm q : Str} {N : Addr} {bs bm : List Value} {sn : List Str} {sub : List Value} {ab : Bool} {col : Option Bool} {dd : Option Addr} {k0 k1 k2 k3 k5 : Option Value} (l : K.lookup C = some (excClassObj nm q C N bs bm true sn sub ab col dd k0 k1 k2 k3 k5 "ValueError.__new__")) : uQ K C bm := ⟨_, _, _, _, _, _, _, _, _, _, _, _, _, _, l⟩
theorem Hj {bm bm' : List Value} (l : uQ K C bm) (l' : uQ K D bm') : kitOne K (.ref C) (.ref D) = some ((Value.ref C :: bm).contains (.ref D)) := by
 obtain ⟨_, _, _, _, _, _, _, _, _, _, _, _, _, _, l⟩ := l
 obtain ⟨_, _, _, _, _, _, _, _, _, _, _, _, _, _, l'⟩ := l'
 exact Kr l l'
theorem qH {bm : List Value} (l : uQ K C bm) : kitOne K (.ref C) (.ref C) = some true := by rw [Hj l l]; simp
theorem cU (l : uQ K C (.ref HE :: jW)) (l' : uQ K D (.ref HE :: jW)) (h0 : D ≠ HE) (h1 : D ≠ C) : kitOne K (.ref C) (.ref D) = some false := by
 rw [Hj l l', contains_cons, contains_cons, Mf]
 have e0 : (Value.ref D == Value.ref HE) = false := beq_eq_false_iff_ne.mpr fun z => h0 (Value.ref.inj z)
 have e1 : (Value.ref D == Value.ref C) = false := beq_eq_false_iff_ne.mpr fun z => h1 (Value.ref.inj z)
 rw [e0, e1]
 rfl
theorem vA (l : uQ K C (.ref HE :: jW)) : Sub K C HE := by
 obtain ⟨_, _, _, _, _, _, _, _, _, _, _, _, _, _, l⟩ := l
 exact ⟨_, _, _, _, _, _, _, _, _, _, _, _, _, _, _, _, _, l, Z2⟩
theorem uC (l : uQ K C (.ref HE :: jW)) (ga : findIn K (.ref C) "__getattribute__" = some (some (.builtin "BaseException.__getattribute__"))) (nga : findIn K (.ref C) "__getattr__" = some none)
  (sa : findIn K (.ref C) "__setattr__" = some (some (.builtin "object.__setattr__"))) (cl : findIn K (.ref C) "__class__" = some (some (.builtin "object.__class__")))
  (cg : specialIn K (.builtin "object.__class__") "__get__" = some (some (.builtin "getset_descriptor.__get__"))) (ct : takesIn K (.builtin "object.__class__") = some true) : qW K C := by
 obtain ⟨_, _, _, _, _, _, _, _, _, _, _, _, _, _, l⟩ := l
 exact Jr l rfl rfl ga nga sa cl cg ct
structure XI (K : Frag) (HE C f : Addr) (x fl : Str) : Prop where
 A : nsIn K mainGlobals x = some (some (.ref C))
 l : uQ K C (.ref HE :: jW)
 e0 : findIn K (.ref C) "__getattribute__" = some (some (.builtin "BaseException.__getattribute__"))
 e1 : findIn K (.ref C) "__getattr__" = some none
 e2 : findIn K (.ref C) "__setattr__" = some (some (.builtin "object.__setattr__"))
 e3 : findIn K (.ref C) "__class__" = some (some (.builtin "object.__class__"))
 e4 : findIn K (.ref C) fl = some none
 e5 : findIn K (.ref C) "__init__" = some (some (.ref f))
 kp : keepIn K (.ref C) = true
theorem DN {p : Nat -> Prop} (a : p 21) (b : p 22) (c : p 24) (d : p 25) (e : p 26) : ∀ i, IsK i -> p i := fun i h => by
 rcases h with rfl | rfl | rfl | rfl | rfl
 ·exact a
 ·exact b
 ·exact c
 ·exact d
 ·exact e
theorem Aa {p : Nat -> Prop} (a : p 21) (b : p 22) (b2 : p 23) (c : p 24) (d : p 25) (e : p 26) : ∀ i, 21 <= i -> i <= 26 -> p i := fun i h1 h2 => by
 rcases (by omega : i = 21 \/ i = 22 \/ i = 23 \/ i = 24 \/ i = 25 \/ i = 26) with rfl | rfl | rfl | rfl | rfl | rfl
 ·exact a
 ·exact b
 ·exact b2
 ·exact c
 ·exact d
 ·exact e
theorem bD {cs : List Addr} (h : cs.Nodup) {i j : Nat} {a b : Addr} (ha : cs[i]? = some a) (hb : cs[j]? = some b) (hij : i ≠ j) : a ≠ b := fun e => by
 subst e
 exact hij ((getElem?_inj (List.getElem?_eq_some_iff.mp ha).1 h).mp (ha.trans hb.symm))
end
end
structure Tx (K : Frag) (mg : MG) (C : Nat -> Addr) : Prop where
 sorted : mg "sorted" = none
 t_dict : mg "dict" = none
 any : mg "any" = none
 enumerate : mg "enumerate" = none
 len : mg "len" = none
 range : mg "range" = none
 inst : mg "isinstance" = none
 t_str : mg "str" = none
 t_int : mg "int" = none
 t_bool : mg "bool" = none
 t_list : mg "list" = none
 t_tuple : mg "tuple" = none
 all : mg "all" = none
 max : mg "max" = none
 min : mg "min" = none
 zip : mg "zip" = none
 g_MOST_PARTS : ∃ t, mg "MOST_PARTS" = some (.int 12 t)
 aav : ∃ f fd, FnAt K mg "show_term" jE jC f fd
 aad : ∃ f fd, FnAt K mg "show_expr" kj fK f fd
 aa1 : ∃ f fd, FnAt K mg "prefixes" mV jA f fd
 aaf : ∃ f fd, FnAt K mg "parent_of" jG fG f fd
 abc : ∃ f fd, FnAt K mg "named_by" lX nF f fd
 aba : ∃ f fd, FnAt K mg "links" t6 qF f fd
 aay : ∃ f fd, FnAt K mg "is_orphan" jZ jD f fd
 aa4 : ∃ f fd, FnAt K mg "is_clash" lV mC f fd
 aa5 : ∃ f fd, FnAt K mg "check_parts" gU ir f fd
 aab : ∃ f fd, FnAt K mg "_law_cell" m9 rF f fd
 aan : ∃ f fd, FnAt K mg "_law_sub" o8 Ar f fd
 aaa : ∃ f fd, FnAt K mg "_law_pick" mZ jo f fd
 aa7 : ∃ f fd, FnAt K mg "_law_words" jz tX f fd
 aax : ∃ f fd, FnAt K mg "_law_addresses" eY jT f fd
 aas : ∃ f fd, FnAt K mg "_law_prefixes" fU mY f fd
 abb : ∃ f fd, FnAt K mg "_law_asked" jF uf f fd
 aak : ∃ f fd, FnAt K mg "_law_drawn" jN qG f fd
 aa3 : ∃ f fd, FnAt K mg "_law_rows" nD yK f fd
 aae : ∃ f fd, FnAt K mg "_law_row" o6 wB f fd
 aa0 : ∃ f fd, FnAt K mg "_law_parts" ju tQ f fd
 aaz : ∃ f fd, FnAt K mg "_law_made" mX xq f fd
 aa6 : ∃ f fd, FnAt K mg "_law_names" jP tH f fd
 aa8 : ∃ f fd, FnAt K mg "_law_due" o5 Dt f fd
 aaw : ∃ f fd, FnAt K mg "_law_less" lW xu f fd
 aa9 : ∃ f fd, FnAt K mg "_law_word" mQ yX f fd
 aaj : ∃ f fd, FnAt K mg "_law_said" mG uP f fd
 aar : ∃ f fd, FnAt K mg "_law_does" nj yz f fd
 aa2 : ∃ f fd, FnAt K mg "_law_other" jR ue f fd
 abd : ∃ f fd, FnAt K mg "_law_links" jY t8 f fd
 aau : ∃ f fd, FnAt K mg "_law_stands" iY qz f fd
 i_House : ∃ f fd, MAt K "__init__" "House.__init__" cT cV f fd /\ Mk K (C 8) f
 m_House_addresses : ∃ f fd, MAt K "addresses" "House.addresses" cA b7 f fd /\ Meth K (C 8) "addresses" f
 m_House_has : ∃ f fd, MAt K "has" "House.has" gP cO f fd /\ Meth K (C 8) "has" f
 m_House_part : ∃ f fd, MAt K "part" "House.part" fQ eN f fd /\ Meth K (C 8) "part" f
 m_House_with_part : ∃ f fd, MAt K "with_part" "House.with_part" cB dg f fd /\ Meth K (C 8) "with_part" f
 m_House_without : ∃ f fd, MAt K "without" "House.without" dm dU f fd /\ Meth K (C 8) "without" f
 m_Row_binds : ∃ f fd, MAt K "binds" "Row.binds" gJ m8 f fd /\ Meth K (C 5) "binds" f /\ Meth K (C 6) "binds" f
 m_Row_asked : ∃ f fd, MAt K "asked" "Row.asked" ik nG f fd /\ Meth K (C 0) "asked" f /\ Meth K (C 1) "asked" f /\ Meth K (C 5) "asked" f /\ Meth K (C 6) "asked" f
 m_Row_said : ∃ f fd, MAt K "said" "Row.said" qP Al f fd /\ Meth K (C 6) "said" f
 i_Let : ∃ f fd, MAt K "__init__" "Let.__init__" dY jM f fd /\ Mk K (C 0) f
 m_Let_binds : ∃ f fd, MAt K "binds" "Let.binds" gZ mK f fd /\ Meth K (C 0) "binds" f
 m_Let_said : ∃ f fd, MAt K "said" "Let.said" iU oM f fd /\ Meth K (C 0) "said" f
 i_Deed : ∃ f fd, MAt K "__init__" "Deed.__init__" dw iW f fd /\ Mk K (C 1) f
 m_Deed_binds : ∃ f fd, MAt K "binds" "Deed.binds" gw lB f fd /\ Meth K (C 1) "binds" f
 m_Deed_said : ∃ f fd, MAt K "said" "Deed.said" gY nJ f fd /\ Meth K (C 1) "said" f
 i_Draw : ∃ f fd, MAt K "__init__" "Draw.__init__" dD iZ f fd /\ Mk K (C 2) f
 m_Draw_binds : ∃ f fd, MAt K "binds" "Draw.binds" gA km f fd /\ Meth K (C 2) "binds" f
 m_Draw_asked : ∃ f fd, MAt K "asked" "Draw.asked" gk kE f fd /\ Meth K (C 2) "asked" f
 m_Draw_said : ∃ f fd, MAt K "said" "Draw.said" ie nH f fd /\ Meth K (C 2) "said" f
 i_Late : ∃ f fd, MAt K "__init__" "Late.__init__" dj iQ f fd /\ Mk K (C 3) f
 m_Late_binds : ∃ f fd, MAt K "binds" "Late.binds" fY kO f fd /\ Meth K (C 3) "binds" f
 m_Late_asked : ∃ f fd, MAt K "asked" "Late.asked" gf kI f fd /\ Meth K (C 3) "asked" f
 m_Late_said : ∃ f fd, MAt K "said" "Late.said" gK m7 f fd /\ Meth K (C 3) "said" f
 i_Take : ∃ f fd, MAt K "__init__" "Take.__init__" cZ iT f fd /\ Mk K (C 4) f
 m_Take_binds : ∃ f fd, MAt K "binds" "Take.binds" fP lu f fd /\ Meth K (C 4) "binds" f
 m_Take_asked : ∃ f fd, MAt K "asked" "Take.asked" fV lD f fd /\ Meth K (C 4) "asked" f
 m_Take_said : ∃ f fd, MAt K "said" "Take.said" gQ lY f fd /\ Meth K (C 4) "said" f
 i_Need : ∃ f fd, MAt K "__init__" "Need.__init__" dB iV f fd /\ Mk K (C 5) f
 m_Need_said : ∃ f fd, MAt K "said" "Need.said" ig mz f fd /\ Meth K (C 5) "said" f
 i_Part : ∃ f fd, MAt K "__init__" "Part.__init__" dq dW f fd /\ Mk K (C 7) f
 m_Part_bound : ∃ f fd, MAt K "bound" "Part.bound" gj iu f fd /\ Meth K (C 7) "bound" f
 m_Part_text : ∃ f fd, MAt K "text" "Part.text" gO dZ f fd /\ Meth K (C 7) "text" f
 c_Let : mg "Let" = some (.ref (C 0))
 c_Deed : mg "Deed" = some (.ref (C 1))
 c_Draw : mg "Draw" = some (.ref (C 2))
 c_Late : mg "Late" = some (.ref (C 3))
 c_Take : mg "Take" = some (.ref (C 4))
 c_Need : mg "Need" = some (.ref (C 5))
 c_Row : mg "Row" = some (.ref (C 6))
 c_Part : mg "Part" = some (.ref (C 7))
 c_House : mg "House" = some (.ref (C 8))
 cn : MkN K (C 6)
 fam : Pg K C
 pt : Q5 K (C 7)
 hs : QX K (C 8)
 c_HouseError : mg "HouseError" = some (.ref (C 20))
 c_NoPart : mg "NoPart" = some (.ref (C 21))
 c_TooMany : mg "TooMany" = some (.ref (C 22))
 c_Double : mg "Double" = some (.ref (C 23))
 c_Orphan : mg "Orphan" = some (.ref (C 24))
 c_Clash : mg "Clash" = some (.ref (C 25))
 c_NoDrop : mg "NoDrop" = some (.ref (C 26))
 x_HouseError : ExC K (C 20)
 xf : K7 K C
 x_NoPart : ExC K (C 21)
 x_TooMany : ExC K (C 22)
 x_Orphan : ExC K (C 24)
 x_Clash : ExC K (C 25)
 x_NoDrop : ExC K (C 26)
 i_NoPart : ∃ f fd, XIn K (C 21) "NoPart.__init__" jf gG f fd
 i_TooMany : ∃ f fd, XIn K (C 22) "TooMany.__init__" iB iy f fd
 i_Orphan : ∃ f fd, XIn K (C 24) "Orphan.__init__" jq jc f fd
 i_Clash : ∃ f fd, XIn K (C 25) "Clash.__init__" lF lH f fd
 i_NoDrop : ∃ f fd, XIn K (C 26) "NoDrop.__init__" jm je f fd
 ini1 : specialIn K (.ref (C 20)) "__getattribute__" = some (some (.builtin "type.__getattribute__"))
 ini2 : readsIn K (C 20) (.type "type") = true
 ini3 : findCls K (.ref (C 20)) (.type "type") "__init__" = some (.val (.builtin "ValueError.__init__"))
section
variable {P : Program} {w : World} {K : Frag} {mg : MG} {base : Heap}
theorem xZ (T : Tx K mg C) (F : Fun K "show_term" "show_term" jE f fd) : aL P w K mg base CX0 1 f fd jC xY := by
 refine F.oq rQ fun _ _ _ _ H _ Q E hr h => ?_
 ·obtain ⟨x, th, rfl, hx, gth, q⟩ := h
  refine ⟨_, QSs.h (aq (bA (aH cJ (pv 0) aC (aQ _)) (aA (aO (dX yV Z3 T.t_str PyProof.Rows.boot_str (aj (pv 1) ao)))) aP)
   (aq (aW (i := 2) rQ.nd rfl (Or.inl rfl) (cI plainAttrs_str slot_str_join type_str_join jX aC (aj (pv 1) ao)))
   (aq (bA (aH cJ (pv 0) aC (aQ _)) (aA (aO (aN aM (pv 2) aC))) aP)
   (aA (aO (pv 2)))))), ?_⟩
  have q0 := q H (az.refl H)
  cases th with
  | num m =>
   cases hx
   exact ⟨_, rfl, rfl, _, rfl, bR (decide_eq_true (show V.str (kindOf (.num m)) = V.str "number" from rfl)) ⟨_, rfl, _, rfl, log2_small gth, q0⟩⟩
  | nms c ys =>
   have gn : p8 ys := gth
   obtain ⟨r, rfl, hr'⟩ := hx
   have hs : (ys.map (·.length)).sum <= ys.length * 8 := nq fun y hy => (gn.nm y hy).hi
   have h4 := gn.hi
   have hdl := gn.len
   cases c with
   | true =>
    refine ⟨_, rfl, rfl, _, rfl, aV (decide_eq_false (show ¬ V.str "call" = V.str "number" by decide +kernel)) ?_⟩
    refine ⟨rfl, _, rfl, _, r, ys, rfl, rfl, .inr (SqT.of hr'), by rw [Gg]; omega, ?_⟩
    exact ⟨_, rfl, rfl, _, rfl, bR (decide_eq_true (show V.str "call" = V.str "call" from rfl)) ⟨_, rfl, _, _, rfl, rfl, le_trans (show (dotted ys).length + brk.length <= 1000 by rw [DX]; omega) iM, q0⟩⟩
   | false =>
    refine ⟨_, rfl, rfl, _, rfl, aV (decide_eq_false (show ¬ V.str "path" = V.str "number" by decide +kernel)) ?_⟩
    refine ⟨rfl, _, rfl, _, r, ys, rfl, rfl, .inr (SqT.of hr'), by rw [Gg]; omega, ?_⟩
    exact ⟨_, rfl, rfl, _, rfl, aV (decide_eq_false (show ¬ V.str "path" = V.str "call" by decide +kernel)) ⟨_, rfl, q0⟩⟩
theorem nu (T : Tx K mg C) (F : Fun K "show_expr" "show_expr" kj f fd) : aL P w K mg base CX0 2 f fd fK xU := by
 obtain ⟨fav, dav, Aav⟩ := T.aav
 have Gav : aL P w K mg base CX0 1 fav dav jC xY := xZ T Aav.F
 refine F.oq iw fun _ _ _ _ H _ Q E hr h => ?_
 ·obtain ⟨l, ts, rfl, ⟨xs, hl, hxl, hx⟩, hg, q⟩ := h
  have hr1 : aY 1 _ := hr
  refine ⟨_, QSs.h (aq (aW (i := 1) iw.nd rfl (Or.inl rfl) (bM ao))
   (aq (gm PassesOwn.never rfl (aZ (pv 0)) (kh (K := K) (n := 3) rfl rfl (bG (aJ (i := 2) iw.nd rfl (Or.inl rfl)) (bG (aJ (i := 3) iw.nd rfl (Or.inl rfl)) (bG (aJ (i := 4) iw.nd rfl (Or.inl rfl)) jO))))
   (aq (bA (aH rZ (bw bz Z3 T.len boot_len (aj (pv 1) ao)) au (aQ _)) (aA (bT (cI plainAttrs_list PySem.F.slot_list_append PySem.F.type_list_append cF (pv 1) (aj (zy (aH cJ (pv 2) au (aQ _)) aC aC) ao)))) aP)
   (aA (bT (cI plainAttrs_list PySem.F.slot_list_append PySem.F.type_list_append cF (pv 1) (aj (aX Aav Gav hr1 (aj (pv 3) (aj (pv 4) ao))) ao))))))
   (aA (aO (cI plainAttrs_str slot_str_join type_str_join jX aC (aj (pv 1) ao)))))), ?_⟩
  have h6 := hg.hi
  refine ⟨by show 0 <= sizeLine; decide, fun d hd => ?_⟩
  refine ⟨_, rfl, l, rfl, ⟨_, SqL.of ((az.new hd) _ _ hl)⟩, ?_⟩
  refine eQ (xs := xs) (fun i σ H' => ∃ v2 v3 v4, σ = [some (.ref l), some (.ref d), v2, v3, v4] /\ az H H' /\ H' d = some (.lst ((wordsOf (ts.take i)).map V.str))) ⟨none, none, none, rfl, az.new hd, ak⟩ ?_ ?_ ?_
  ·rintro i σ H' _ ⟨v2, v3, v4, rfl, sm, _⟩
   exact SqL.of (sm _ _ hl)
  ·rintro i x σ H3 hxi ⟨v2, v3, v4, rfl, sm, h3d⟩
   obtain ⟨t, et, tm⟩ := hx i x hxi
   have gt : Ip t := hg.ok t (mem_of_getElem? et)
   obtain ⟨p, y, rfl, hp, hy⟩ := tm.same sm
   have hi : i < ts.length := (List.getElem?_eq_some_iff.mp et).1
   have hne : d ≠ p := pq h3d hp Z7
   refine ⟨p, _, rfl, SqT.of hp, rfl, _, _, rfl, _, _, rfl, _, _, rfl, rfl, ?_⟩
   have e2 : ts.take (i + 1) = ts.take i ++ [t] := by rw [List.take_add_one, et]; rfl
   have wl : (wordsOf (ts.take i)).length <= 12 := by
    cases htk : ts.take i with
    | nil => simp [wordsOf]
    | cons u r =>
     rw [oR Z2, <- htk, length_take]
     omega
   have fin : ∀ (ws : List Str) (Hx : Hp), ws.length <= 13 -> az H Hx -> Hx d = some (.lst (ws.map V.str)) -> ws ++ [wordOf t.th] = wordsOf (ts.take (i + 1)) ->
     Il (tBM K "list" Du (yE 1) (wO (Dh xY [] E0 (wO (yE 3) (wO (yE 4) Fd))) Fd))
      { nx := fun σ H' => ∃ v2 v3 v4, σ = [some (V.ref l), some (V.ref d), v2, v3, v4] /\ az H H' /\ H' d = some (.lst ((wordsOf (ts.take (i + 1))).map V.str)), rt := Q, bk := JZ (tBM K "str" (rJoin K) (tC (.str " ")) (wO (yE 1) Fd)) { nx := fun _ H' => Q .non H', rt := Q }, ct := fun σ H' => ∃ v2 v3 v4, σ = [some (V.ref l), some (V.ref d), v2, v3, v4] /\ az H H' /\ H' d = some (.lst ((wordsOf (ts.take (i + 1))).map V.str)) }
      [some (V.ref l), some (V.ref d), some (V.int t.sg), some (V.str (kindOf t.th)), some y] Hx := by
    intro ws Hx hw sx hxd hws
    refine ⟨_, rfl, .inl ⟨rfl, _, SqL.of hxd⟩, _, rfl, _, rfl, y, t.th, rfl, (hx i _ hxi).elim fun t' ⟨et', tm'⟩ => ?_, gt.th, fun H4 s4 => ?_⟩
    ·rw [et] at et'; cases et'
     obtain ⟨p', y', e', hp', hy'⟩ := tm'.same sx
     cases e'
     obtain ⟨p0, y0, e0, hp0, hy0⟩ := tm
     cases e0
     have a1 := sm _ _ hp0
     rw [hp] at a1
     have a2 := sx _ _ hp0
     rw [hp'] at a2
     injection a1 with a1; injection a1 with a1
     injection a2 with a2; injection a2 with a2
     have ey : y = y0 := by injection a1 with _ a1; injection a1 with _ a1; injection a1
     subst ey
     exact hy0.same sx
    ·refine ⟨d, _, _, rfl, rfl, s4 _ _ hxd, lt_of_lt_of_le (show (ws.map V.str).length < 1000 by rw [length_map]; omega) iM, ?_⟩
     refine ⟨_, _, _, rfl, (sx.trans s4).over hd, ?_⟩
     rw [ak, <- hws, map_append]
     rfl
   refine ⟨_, rfl, d, _, rfl, .inl (SqL.of h3d), _, _, rfl, rfl, _, rfl, d7 (fun h => ?_) (fun h => ?_)⟩
   ·rw [length_map] at h
    have hne2 : ts.take i ≠ [] := fun z => by rw [z] at h; simp [wordsOf] at h
    refine ⟨_, rfl, .inl ⟨rfl, _, SqL.of h3d⟩, _, rfl, rfl, _, rfl, QL ?_⟩
    refine ⟨d, _, V.str (sgw t.sg), rfl, by rw [Mx], h3d, lt_of_lt_of_le (show _ < 1000 by rw [length_map]; omega) iM, ?_⟩
    refine fin (wordsOf (ts.take i) ++ [sgw t.sg]) _ (by rw [length_append]; simp; omega) (sm.over hd) (by rw [ak, map_append]; rfl) ?_
    rw [e2, yx t hne2, append_assoc]
    rfl
   ·rw [length_map] at h
    have hne2 : ts.take i = [] := by
     cases htk : ts.take i with
     | nil => rfl
     | cons u r => rw [htk] at h; simp [wordsOf] at h
    refine fin (wordsOf (ts.take i)) H3 Z1 sm h3d ?_
    rw [e2, hne2]
    rfl
  ·rintro σ H3 ⟨v2, v3, v4, rfl, sm, h3d⟩
   rw [hxl, take_length] at h3d
   have wn := oR hg.lo
   have ws : ((wordsOf ts).map (·.length)).sum <= (wordsOf ts).length * 38 := nq fun y hy => by
    rcases rT hy with ⟨t, ht, rfl⟩ | ⟨t, ht, rfl⟩
    ·exact zP (hg.ok t ht).th
    ·rw [Dk]; decide
   have q' := q H3 sm
   rw [<- Fe] at q'
   exact ⟨rfl, _, rfl, _, d, wordsOf ts, rfl, rfl, .inl (SqL.of h3d), by rw [Ik]; omega, q'⟩
theorem rW (T : Tx K mg C) (F : Fun K "__init__" "NoPart.__init__" jf f fd) : aL P w K mg base CX0 1 f fd gG (zr (C 21) "address") := by
 refine F.oq Bs fun _ _ _ _ H _ Q E hr h => ?_
 ·obtain ⟨x, y, rfl, hx, hy, q⟩ := h
  refine ⟨_, QSs.h (aq (bT (ou Z3 T.c_HouseError T.ini1 T.ini2 T.ini3 (aj (pv 0) (aj (lQ (gW aC (gW (vz (pv 1)) uK))) ao))))
   (aA (oG (pv 0) (pv 1)))), ?_⟩
  obtain ⟨z, rfl, hz⟩ := hy
  refine ⟨_, rfl, _, rfl, Z4, _, rfl, Or.inr ⟨_, rfl, le_trans hz f9, _, rfl, vG Z4 Z1, vG Z4 Z1, _, _, _, _, _, rfl, hx, T.x_NoPart, ?_⟩⟩
  exact ⟨_, rfl, _, rfl, _, _, _, rfl, hx, (T.xf.x 21 (by unfold IsK; decide)), (T.xf.a 21 (by unfold IsK; decide)), fun p hp hne => q p hp hne⟩
theorem yU (T : Tx K mg C) (F : Fun K "__init__" "TooMany.__init__" iB f fd) : aL P w K mg base CX0 1 f fd iy (rO (C 22)) := by
 refine F.oq An fun _ _ _ _ H _ Q E hr h => ?_
 ·obtain ⟨x, n, rfl, hx, hi, q⟩ := h
  refine ⟨_, QSs.h (aq (bT (ou Z3 T.c_HouseError T.ini1 T.ini2 T.ini3 (aj (pv 0) (aj (lQ (gW aC (gW (vz (pv 1)) uK))) ao))))
   (aA (oG (pv 0) (pv 1)))), ?_⟩
  refine ⟨_, rfl, _, rfl, Z4, _, rfl, Or.inl ⟨_, rfl, hi, _, rfl, vG Z4 (le_trans (Ez hi) Z0), vG Z4 (le_trans (Ez hi) Z0), _, _, _, _, _, rfl, hx, T.x_TooMany, ?_⟩⟩
  exact ⟨_, rfl, _, rfl, _, _, _, rfl, hx, T.xf.x 22 (by unfold IsK; decide), T.xf.a 22 (by unfold IsK; decide), fun p hp hne => q p hp hne⟩
theorem Aj (T : Tx K mg C) (F : Fun K "__init__" "Orphan.__init__" jq f fd) : aL P w K mg base CX0 1 f fd jc (rO (C 24)) := by
 refine F.oq Cw fun _ _ _ _ H _ Q E hr h => ?_
 ·obtain ⟨x, n, rfl, hx, hi, q⟩ := h
  refine ⟨_, QSs.h (aq (bT (ou Z3 T.c_HouseError T.ini1 T.ini2 T.ini3 (aj (pv 0) (aj (lQ (gW aC (gW (vz (pv 1)) uK))) ao))))
   (aA (oG (pv 0) (pv 1)))), ?_⟩
  refine ⟨_, rfl, _, rfl, Z4, _, rfl, Or.inl ⟨_, rfl, hi, _, rfl, vG Z4 (le_trans (Ez hi) Z0), vG Z4 (le_trans (Ez hi) Z0), _, _, _, _, _, rfl, hx, T.x_Orphan, ?_⟩⟩
  exact ⟨_, rfl, _, rfl, _, _, _, rfl, hx, T.xf.x 24 (by unfold IsK; decide), T.xf.a 24 (by unfold IsK; decide), fun p hp hne => q p hp hne⟩
theorem Ce (T : Tx K mg C) (F : Fun K "__init__" "Clash.__init__" lF f fd) : aL P w K mg base CX0 1 f fd lH (rO (C 25)) := by
 refine F.oq Es fun _ _ _ _ H _ Q E hr h => ?_
 ·obtain ⟨x, n, rfl, hx, hi, q⟩ := h
  refine ⟨_, QSs.h (aq (bT (ou Z3 T.c_HouseError T.ini1 T.ini2 T.ini3 (aj (pv 0) (aj (lQ (gW aC (gW (vz (pv 1)) uK))) ao))))
   (aA (oG (pv 0) (pv 1)))), ?_⟩
  refine ⟨_, rfl, _, rfl, Z4, _, rfl, Or.inl ⟨_, rfl, hi, _, rfl, vG Z4 (le_trans (Ez hi) Z0), vG Z4 (le_trans (Ez hi) Z0), _, _, _, _, _, rfl, hx, T.x_Clash, ?_⟩⟩
  exact ⟨_, rfl, _, rfl, _, _, _, rfl, hx, T.xf.x 25 (by unfold IsK; decide), T.xf.a 25 (by unfold IsK; decide), fun p hp hne => q p hp hne⟩
theorem Bg (T : Tx K mg C) (F : Fun K "__init__" "NoDrop.__init__" jm f fd) : aL P w K mg base CX0 1 f fd je (zr (C 26) "address") := by
 refine F.oq CG fun _ _ _ _ H _ Q E hr h => ?_
 ·obtain ⟨x, y, rfl, hx, hy, q⟩ := h
  refine ⟨_, QSs.h (aq (bT (ou Z3 T.c_HouseError T.ini1 T.ini2 T.ini3 (aj (pv 0) (aj (lQ (gW aC (gW (vz (pv 1)) uK))) ao))))
   (aA (oG (pv 0) (pv 1)))), ?_⟩
  obtain ⟨z, rfl, hz⟩ := hy
  refine ⟨_, rfl, _, rfl, Z4, _, rfl, Or.inr ⟨_, rfl, le_trans hz f9, _, rfl, vG Z4 Z1, vG Z4 Z1, _, _, _, _, _, rfl, hx, T.x_NoDrop, ?_⟩⟩
  exact ⟨_, rfl, _, rfl, _, _, _, rfl, hx, (T.xf.x 26 (by unfold IsK; decide)), (T.xf.a 26 (by unfold IsK; decide)), fun p hp hne => q p hp hne⟩
theorem zN (T : Tx K mg C) (F : Fun K "prefixes" "prefixes" mV f fd) : aL P w K mg base CX0 1 f fd jA tM := by
 refine F.oq rY fun _ _ _ _ H _ Q E hr h => ?_
 ·obtain ⟨ys, rfl, g, q⟩ := h
  refine ⟨_, QSs.h (aq (aW (i := 1) rY.nd rfl (Or.inr rfl) (cI plainAttrs_str slot_str_split type_str_split lJ (pv 0) (aj aC ao)))
   (aA (aO (bF (N := ["many", "names"]) [none, some 1] rfl Z5 (wR Z3 T.range (aj au (aj (aN cN (bw bz Z3 T.len boot_len (aj (pv 1) ao)) au) ao))) (fun cl C fp s H => (aJ (i := 0) (by decide +kernel : (["many", "names"] : List Str).Nodup) rfl (Or.inl rfl))) (fun cl C fp s H => bL) (fun cl C fp s H => (mj (K := K) rfl plainAttrs_str slot_str_join type_str_join (uB rfl) aC (aj (eU (uh (K := K) rfl) (pv 1) jB (eV (pv 0))) ao))))))), ?_⟩
  have h36 := g.len
  have h3 := g.hi
  refine ⟨_, rfl, rfl, _, _, rfl, rfl, Z4, le_trans (show (dotted ys).length + 2 <= 1000 by omega) f9, fun p hp => ?_⟩
  rw [bK ys g.lo g.nm]
  refine ⟨_, rfl, p, _, rfl, .inl (SqL.of ak), _, _, rfl, rfl, _, _, rfl, ⟨Z0, Z0, Z1, by rw [length_map]; omega⟩, ?_⟩
  rw [length_map, show ((ys.length : Int) + 1 - 1).toNat = ys.length from by omega]
  refine uI (fun i => V.str (dotted (ys.take (i + 1)))) (le_trans (show ys.length <= 3 by omega) Z0) (fun i H' Q' hi sm k' => ?_) (fun τ H Q Q' hh h => hh _ _ h) (fun H' sm p2 hp2 => ?_)
  ·refine ⟨rfl, rfl, _, rfl, _, rfl, _, rfl, p, _, rfl, SqL.of (sm _ _ ak), fun p3 hp3 => ?_⟩
   have e : (1 + (i : Int)) = ((i + 1 : Nat) : Int) := by omega
   have hs : ((ys.take (i + 1)).map (·.length)).sum <= (ys.take (i + 1)).length * 8 := nq fun y hy => (g.nm y (mem_of_mem_take hy)).hi
   have ht : (ys.take (i + 1)).length <= 3 := le_trans (length_take_le' _ _) h3
   refine ⟨_, p3, ys.take (i + 1), rfl, rfl, .inl (SqL.of ?_), ?_, k' _ (az.new hp3)⟩
   ·rw [ak, e, qu _ Z1]; rfl
   ·rw [show (("." : Str)).length = 1 from by decide +kernel]; omega
  ·have h0 : H p2 = none := (az.new hp).free (sm.free hp2)
   refine q p2 _ h0 (((az.new hp).trans sm).put hp2) ?_
   rw [ak]
   unfold fL
   rw [map_map]
   rfl
theorem nO (T : Tx K mg C) (F : Fun K "parent_of" "parent_of" jG f fd) : aL P w K mg base CX0 1 f fd fG qm := by
 refine F.oq Ai fun _ _ _ _ H _ Q E hr h => ?_
 ·obtain ⟨ys, rfl, g, q⟩ := h
  refine ⟨_, QSs.h (aA (aO (bc bU (cI plainAttrs_str PySem.F.slot_str_rpartition PySem.F.type_str_rpartition Af (pv 0) (aj aC ao)) au))), ?_⟩
  refine ⟨_, rfl, rfl, _, _, rfl, rfl, Z4, le_trans g.len Z0, fun p hp => ⟨p, _, _, _, rfl, rfl, SqT.of ak, aF (j := 0) rfl, ?_⟩⟩
  rw [N8 g]
  exact q _ (az.new hp)
theorem yS (T : Tx K mg C) (F : Fun K "is_orphan" "is_orphan" jZ f fd) : aL P w K mg base CX0 2 f fd jD (wu C) := by
 obtain ⟨faf, daf, Aaf⟩ := T.aaf
 have Gaf : aL P w K mg base CX0 1 faf daf fG qm := nO T Aaf.F
 refine F.oq sr fun _ _ _ _ H _ Q E hr h => ?_
 ·obtain ⟨p, l, la, ys, zs, rs, rfl, hp, g, hl, q⟩ := h
  have hr1 : aY 1 _ := hr
  refine ⟨_, QSs.h (aq (aW (i := 2) sr.nd rfl (Or.inl rfl) (aX Aaf Gaf hr1 (aj (bC (pv 0) rfl) ao)))
   (aA (aO (Mt (o9 oE (pv 2) aC (aQ _)) (NK (o9 cP (pv 2) (pv 1) Z3)))))), ?_⟩
  obtain ⟨dx, fs, ea, a1, a2, a3, a4, a5, hr0⟩ := id hp
  refine ⟨_, rfl, rdF ea T.pt.cl.cl T.pt.na a1 ⟨ys, rfl, g, fun H1 s1 => ?_⟩⟩
  have hfl : (zs.map V.str).all dM = true := by rw [all_eq_true]; intro v hv; obtain ⟨z, _, rfl⟩ := mem_map.mp hv; rfl
  by_cases hd : ys.dropLast = []
  ·have e : fu ys = "" := by unfold fu; rw [if_pos hd]
   exact ⟨_, rfl, rfl, _, rfl, jh (decide_eq_true (congrArg V.str e)) (q false ⟨(fun z => Bool.noConfusion z), fun z => absurd hd z.1⟩ H1 s1)⟩
  ·have e : fu ys = dotted ys.dropLast := by unfold fu; rw [if_neg hd]
   have gd : bO ys.dropLast := ⟨hd, by rw [List.length_dropLast]; exact le_trans (sub_le _ _) g.hi, fun y hy => g.nm y (by rw [List.dropLast_eq_take] at hy; exact mem_of_mem_take hy)⟩
   have hne : ¬ fu ys = "" := by rw [e]; exact oZ gd
   refine ⟨_, rfl, rfl, _, rfl, nA (decide_eq_false fun z => hne (V.str.inj z)) ⟨_, rfl, _, rfl, la, _, rfl, .inl (SqL.of (s1 _ _ hl)), rfl, hfl, ?_⟩⟩
   exact q (!inV (V.str (fu ys)) (zs.map V.str)) (by
    rw [eG, e]
    by_cases k : dotted ys.dropLast ∈ zs
    ·rw [decide_eq_true k]; exact ⟨(fun z => Bool.noConfusion z), fun z => absurd k z.2⟩
    ·rw [decide_eq_false k]; exact ⟨fun _ => ⟨hd, k⟩, fun _ => rfl⟩) H1 s1
theorem uz (T : Tx K mg C) (F : Fun K "binds" "Row.binds" gJ f fd) : aL P w K mg base CX0 1 f fd m8 GZ := by
 refine F.oq zg fun _ _ _ _ H _ Q E hr h => ?_
 ·obtain ⟨v, rfl, q⟩ := h
  exact ⟨_, QSs.h (aA (aO aC)), q H (az.refl H)⟩
theorem jj (T : Tx K mg C) (F : Fun K "asked" "Row.asked" ik f fd) : aL P w K mg base CX0 1 f fd nG xK := by
 refine F.oq yt fun _ _ _ _ H _ Q E hr h => ?_
 ·obtain ⟨v, rfl, q⟩ := h
  exact ⟨_, QSs.h (aA (aO (bM ao))), by show 0 <= sizeLine; decide, fun b hb => q b _ hb (az.new hb) ak⟩
theorem qM (T : Tx K mg C) (F : Fun K "__init__" "Let.__init__" dY f fd) : aL P w K mg base CX0 1 f fd jM (yj C 0) := by
 refine F.oq Ba fun _ _ _ _ H _ Q E hr h => ?_
 ·obtain ⟨x, dx, r, d, rfl, hso, hx, hts, h10, q⟩ := h
  refine ⟨_, QSs.h (aq (fB (pv 0) (pv 1))
   (aA (fB (pv 0) (dX fX Z3 T.t_list boot_list (aj (pv 2) ao))))), ?_⟩
  obtain ⟨xs, hl, hxl, hxt⟩ := id hts
  have hdx : d ≠ x := pq hl hx Z7
  refine ⟨_, rfl, _, rfl, x, _, dx, _, rfl, hx, (T.fam.c 0 Z0).cl, T.fam.nn 0 Z0, lt_of_lt_of_le (zero_lt_one) Z0, _, rfl, d, _, rfl, .inl (SqL.of (by rw [aK hdx]; exact hl)), fun l hlf => ⟨_, rfl, x, _, dx, _, rfl, (by rw [aK (lL hlf).2.symm]; exact ak), (T.fam.c 0 Z0).cl, T.fam.nt 0 Z0, lt_of_lt_of_le (zF zero_lt_one) Z0, ?_⟩⟩
  obtain ⟨hl0, hlx⟩ := lL hlf
  refine q l _ hl0 (sb3 hl0) ⟨dx, _, by rw [hso]; exact ak, ?_⟩
  refine ⟨fun _ => (lkN Z4).trans lkP, fun _ => ⟨lkP, xs, by rw [aK hlx]; exact ak, hxl, fun j y e => ?_⟩, fun k => absurd k Z1, fun k => absurd k Z1, (lkN Z4).trans (lkN Z4), (lkN Z4).trans (lkN Z4), (lkN Z4).trans (lkN Z4)⟩
  obtain ⟨t, et, tm⟩ := hxt j y e
  exact ⟨t, et, tm.but hx (sb3 hl0)⟩
theorem vg (T : Tx K mg C) (F : Fun K "binds" "Let.binds" gZ f fd) : aL P w K mg base CX0 1 f fd mK (spB C 0) := by
 refine F.oq yI fun _ _ _ _ H _ Q E hr h => ?_
 ·obtain ⟨a, l, r, rfl, hso, ra, q⟩ := h
  refine ⟨_, QSs.h (aA (aO (bC (pv 0) rfl))), ?_⟩
  obtain ⟨dx, fs, ha, hf⟩ := id ra
  rw [hso] at ha
  exact ⟨_, rfl, rdF ha (T.fam.c 0 Z0).cl (T.fam.nn 0 Z0) (hf.nm (by rw [hso]; decide)) (q H (az.refl H))⟩
theorem vW (T : Tx K mg C) (F : Fun K "said" "Let.said" iU f fd) : aL P w K mg base CX0 3 f fd oM (spS C 0) := by
 obtain ⟨fad, dad, Aad⟩ := T.aad
 have Gad : aL P w K mg base CX0 2 fad dad fK xU := nu T Aad.F
 refine F.oq zX fun _ _ _ _ H _ Q E hr h => ?_
 ·obtain ⟨a, l, r, rfl, hso, ra, hg, q⟩ := h
  have hr2 : aY 2 _ := hr
  refine ⟨_, QSs.h (aA (aO (aN aM (aN aM (aN aM aC (bC (pv 0) rfl)) aC) (aX Aad Gad hr2 (aj (bC (pv 0) rfl) ao))))), ?_⟩
  obtain ⟨dx, fs, ha, hf⟩ := id ra
  rw [hso] at ha
  have e1 := hg.nl
  have e2 := hg.al
  have e3 := hg.tl
  have e4 := hg.wd.hi
  rw [KQ hso] at q
  refine ⟨_, rfl, rdF ha (T.fam.c 0 Z0).cl (T.fam.nn 0 Z0) (hf.nm (by rw [hso]; decide)) ⟨_, _, rfl, rfl, abS (le_of_eq ud) e1, _, _, rfl, rfl, abS (alS (le_of_eq ud) e1) (le_of_eq rB), _, rfl, rdF ha (T.fam.c 0 Z0).cl (T.fam.nt 0 Z0) ((hf.tm (.inl hso)).1) ⟨l, r.ts, rfl, (hf.tm (.inl hso)).2, hg.ts, fun H2 s2 => ⟨_, _, rfl, rfl, abS (alS (alS (le_of_eq ud) e1) (le_of_eq rB)) e3, q H2 s2⟩⟩⟩⟩
theorem pH (T : Tx K mg C) (F : Fun K "__init__" "Deed.__init__" dw f fd) : aL P w K mg base CX0 1 f fd iW (yj C 1) := by
 refine F.oq yh fun _ _ _ _ H _ Q E hr h => ?_
 ·obtain ⟨x, dx, r, d, rfl, hso, hx, hts, h10, q⟩ := h
  refine ⟨_, QSs.h (aq (fB (pv 0) (pv 1))
   (aA (fB (pv 0) (dX fX Z3 T.t_list boot_list (aj (pv 2) ao))))), ?_⟩
  obtain ⟨xs, hl, hxl, hxt⟩ := id hts
  have hdx : d ≠ x := pq hl hx Z7
  refine ⟨_, rfl, _, rfl, x, _, dx, _, rfl, hx, (T.fam.c 1 Z0).cl, T.fam.nn 1 Z0, lt_of_lt_of_le (zero_lt_one) Z0, _, rfl, d, _, rfl, .inl (SqL.of (by rw [aK hdx]; exact hl)), fun l hlf => ⟨_, rfl, x, _, dx, _, rfl, (by rw [aK (lL hlf).2.symm]; exact ak), (T.fam.c 1 Z0).cl, T.fam.nt 1 Z0, lt_of_lt_of_le (zF zero_lt_one) Z0, ?_⟩⟩
  obtain ⟨hl0, hlx⟩ := lL hlf
  refine q l _ hl0 (sb3 hl0) ⟨dx, _, by rw [hso]; exact ak, ?_⟩
  refine ⟨fun _ => (lkN Z4).trans lkP, fun _ => ⟨lkP, xs, by rw [aK hlx]; exact ak, hxl, fun j y e => ?_⟩, fun k => absurd k Z1, fun k => absurd k Z1, (lkN Z4).trans (lkN Z4), (lkN Z4).trans (lkN Z4), (lkN Z4).trans (lkN Z4)⟩
  obtain ⟨t, et, tm⟩ := hxt j y e
  exact ⟨t, et, tm.but hx (sb3 hl0)⟩
theorem tD (T : Tx K mg C) (F : Fun K "binds" "Deed.binds" gw f fd) : aL P w K mg base CX0 1 f fd lB (spB C 1) := by
 refine F.oq vK fun _ _ _ _ H _ Q E hr h => ?_
 ·obtain ⟨a, l, r, rfl, hso, ra, q⟩ := h
  refine ⟨_, QSs.h (aA (aO (bC (pv 0) rfl))), ?_⟩
  obtain ⟨dx, fs, ha, hf⟩ := id ra
  rw [hso] at ha
  exact ⟨_, rfl, rdF ha (T.fam.c 1 Z0).cl (T.fam.nn 1 Z0) (hf.nm (by rw [hso]; decide)) (q H (az.refl H))⟩
theorem ur (T : Tx K mg C) (F : Fun K "said" "Deed.said" gY f fd) : aL P w K mg base CX0 3 f fd nJ (spS C 1) := by
 obtain ⟨fad, dad, Aad⟩ := T.aad
 have Gad : aL P w K mg base CX0 2 fad dad fK xU := nu T Aad.F
 refine F.oq yl fun _ _ _ _ H _ Q E hr h => ?_
 ·obtain ⟨a, l, r, rfl, hso, ra, hg, q⟩ := h
  have hr2 : aY 2 _ := hr
  refine ⟨_, QSs.h (aA (aO (aN aM (aN aM (aN aM aC (bC (pv 0) rfl)) aC) (aX Aad Gad hr2 (aj (bC (pv 0) rfl) ao))))), ?_⟩
  obtain ⟨dx, fs, ha, hf⟩ := id ra
  rw [hso] at ha
  have e1 := hg.nl
  have e2 := hg.al
  have e3 := hg.tl
  have e4 := hg.wd.hi
  rw [K6 hso] at q
  refine ⟨_, rfl, rdF ha (T.fam.c 1 Z0).cl (T.fam.nn 1 Z0) (hf.nm (by rw [hso]; decide)) ⟨_, _, rfl, rfl, abS (le_of_eq qj) e1, _, _, rfl, rfl, abS (alS (le_of_eq qj) e1) (le_of_eq rB), _, rfl, rdF ha (T.fam.c 1 Z0).cl (T.fam.nt 1 Z0) ((hf.tm (.inr (.inl hso))).1) ⟨l, r.ts, rfl, (hf.tm (.inr (.inl hso))).2, hg.ts, fun H2 s2 => ⟨_, _, rfl, rfl, abS (alS (alS (le_of_eq qj) e1) (le_of_eq rB)) e3, q H2 s2⟩⟩⟩⟩
theorem p7 (T : Tx K mg C) (F : Fun K "__init__" "Draw.__init__" dD f fd) : aL P w K mg base CX0 1 f fd iZ (xG C 2) := by
 refine F.oq xm fun _ _ _ _ H _ Q E hr h => ?_
 ·obtain ⟨x, dx, r, rfl, hso, hx, q⟩ := h
  refine ⟨_, QSs.h (aq (fB (pv 0) (pv 1))
   (aA (fB (pv 0) (pv 2)))), ?_⟩
  refine ⟨_, rfl, _, rfl, x, _, dx, _, rfl, hx, (T.fam.c 2 Z0).cl, T.fam.na 2 Z0, lt_of_lt_of_le (zero_lt_one) Z0, _, rfl, _, rfl, x, _, dx, _, rfl, ak, (T.fam.c 2 Z0).cl, T.fam.nn 2 Z0, lt_of_lt_of_le (zF zero_lt_one) Z0, ?_⟩
  refine q _ (fun b o e hb => by rw [aK hb, aK hb]; exact e) fun l => ⟨dx, _, by rw [hso]; exact ak, ?_⟩
  exact ⟨fun _ => lkP, fun k => absurd k Z1, fun _ => (lkN Z4).trans lkP, fun k => absurd k Z1, (lkN Z4).trans (lkN Z4), (lkN Z4).trans (lkN Z4), (lkN Z4).trans (lkN Z4)⟩
theorem tE (T : Tx K mg C) (F : Fun K "binds" "Draw.binds" gA f fd) : aL P w K mg base CX0 1 f fd km (spB C 2) := by
 refine F.oq vR fun _ _ _ _ H _ Q E hr h => ?_
 ·obtain ⟨a, l, r, rfl, hso, ra, q⟩ := h
  refine ⟨_, QSs.h (aA (aO (bC (pv 0) rfl))), ?_⟩
  obtain ⟨dx, fs, ha, hf⟩ := id ra
  rw [hso] at ha
  exact ⟨_, rfl, rdF ha (T.fam.c 2 Z0).cl (T.fam.nn 2 Z0) (hf.nm (by rw [hso]; decide)) (q H (az.refl H))⟩
theorem sZ (T : Tx K mg C) (F : Fun K "asked" "Draw.asked" gk f fd) : aL P w K mg base CX0 1 f fd kE (spA C 2) := by
 refine F.oq vV fun _ _ _ _ H _ Q E hr h => ?_
 ·obtain ⟨a, l, r, rfl, hso, ra, q⟩ := h
  refine ⟨_, QSs.h (aA (aO (bM (aj (bC (pv 0) rfl) ao)))), ?_⟩
  obtain ⟨dx, fs, ha, hf⟩ := id ra
  rw [hso] at ha
  exact ⟨_, rfl, rdF ha (T.fam.c 2 Z0).cl (T.fam.na 2 Z0) (hf.ad (.inl hso)) ⟨by show 1 <= sizeLine; decide, fun b hb => q b _ hb (az.new hb) ak⟩⟩
theorem uZ (T : Tx K mg C) (F : Fun K "said" "Draw.said" ie f fd) : aL P w K mg base CX0 1 f fd nH (spS C 2) := by
 refine F.oq yM fun _ _ _ _ H _ Q E hr h => ?_
 ·obtain ⟨a, l, r, rfl, hso, ra, hg, q⟩ := h
  refine ⟨_, QSs.h (aA (aO (aN aM (aN aM (aN aM aC (bC (pv 0) rfl)) aC) (bC (pv 0) rfl)))), ?_⟩
  obtain ⟨dx, fs, ha, hf⟩ := id ra
  rw [hso] at ha
  have e1 := hg.nl
  have e2 := hg.al
  have e3 := hg.tl
  have e4 := hg.wd.hi
  rw [KN hso] at q
  exact ⟨_, rfl, rdF ha (T.fam.c 2 Z0).cl (T.fam.na 2 Z0) (hf.ad (.inl hso)) ⟨_, _, rfl, rfl, abS (le_of_eq qK) e2, _, _, rfl, rfl, abS (alS (le_of_eq qK) e2) (le_of_eq mD), _, rfl, rdF ha (T.fam.c 2 Z0).cl (T.fam.nn 2 Z0) (hf.nm (by rw [hso]; decide)) ⟨_, _, rfl, rfl, abS (alS (alS (le_of_eq qK) e2) (le_of_eq mD)) e1, q H (az.refl H)⟩⟩⟩
theorem pZ (T : Tx K mg C) (F : Fun K "__init__" "Late.__init__" dj f fd) : aL P w K mg base CX0 1 f fd iQ (xG C 3) := by
 refine F.oq ym fun _ _ _ _ H _ Q E hr h => ?_
 ·obtain ⟨x, dx, r, rfl, hso, hx, q⟩ := h
  refine ⟨_, QSs.h (aq (fB (pv 0) (pv 1))
   (aA (fB (pv 0) (pv 2)))), ?_⟩
  refine ⟨_, rfl, _, rfl, x, _, dx, _, rfl, hx, (T.fam.c 3 Z0).cl, T.fam.na 3 Z0, lt_of_lt_of_le (zero_lt_one) Z0, _, rfl, _, rfl, x, _, dx, _, rfl, ak, (T.fam.c 3 Z0).cl, T.fam.nn 3 Z0, lt_of_lt_of_le (zF zero_lt_one) Z0, ?_⟩
  refine q _ (fun b o e hb => by rw [aK hb, aK hb]; exact e) fun l => ⟨dx, _, by rw [hso]; exact ak, ?_⟩
  exact ⟨fun _ => lkP, fun k => absurd k Z1, fun _ => (lkN Z4).trans lkP, fun k => absurd k Z1, (lkN Z4).trans (lkN Z4), (lkN Z4).trans (lkN Z4), (lkN Z4).trans (lkN Z4)⟩
theorem sX (T : Tx K mg C) (F : Fun K "binds" "Late.binds" fY f fd) : aL P w K mg base CX0 1 f fd kO (spB C 3) := by
 refine F.oq vO fun _ _ _ _ H _ Q E hr h => ?_
 ·obtain ⟨a, l, r, rfl, hso, ra, q⟩ := h
  refine ⟨_, QSs.h (aA (aO (bC (pv 0) rfl))), ?_⟩
  obtain ⟨dx, fs, ha, hf⟩ := id ra
  rw [hso] at ha
  exact ⟨_, rfl, rdF ha (T.fam.c 3 Z0).cl (T.fam.nn 3 Z0) (hf.nm (by rw [hso]; decide)) (q H (az.refl H))⟩
theorem sY (T : Tx K mg C) (F : Fun K "asked" "Late.asked" gf f fd) : aL P w K mg base CX0 1 f fd kI (spA C 3) := by
 refine F.oq vI fun _ _ _ _ H _ Q E hr h => ?_
 ·obtain ⟨a, l, r, rfl, hso, ra, q⟩ := h
  refine ⟨_, QSs.h (aA (aO (bM (aj (bC (pv 0) rfl) ao)))), ?_⟩
  obtain ⟨dx, fs, ha, hf⟩ := id ra
  rw [hso] at ha
  exact ⟨_, rfl, rdF ha (T.fam.c 3 Z0).cl (T.fam.na 3 Z0) (hf.ad (.inr (.inl hso))) ⟨by show 1 <= sizeLine; decide, fun b hb => q b _ hb (az.new hb) ak⟩⟩
theorem uX (T : Tx K mg C) (F : Fun K "said" "Late.said" gK f fd) : aL P w K mg base CX0 1 f fd m7 (spS C 3) := by
 refine F.oq yg fun _ _ _ _ H _ Q E hr h => ?_
 ·obtain ⟨a, l, r, rfl, hso, ra, hg, q⟩ := h
  refine ⟨_, QSs.h (aA (aO (aN aM (aN aM (aN aM aC (bC (pv 0) rfl)) aC) (bC (pv 0) rfl)))), ?_⟩
  obtain ⟨dx, fs, ha, hf⟩ := id ra
  rw [hso] at ha
  have e1 := hg.nl
  have e2 := hg.al
  have e3 := hg.tl
  have e4 := hg.wd.hi
  rw [K3 hso] at q
  exact ⟨_, rfl, rdF ha (T.fam.c 3 Z0).cl (T.fam.na 3 Z0) (hf.ad (.inr (.inl hso))) ⟨_, _, rfl, rfl, abS (le_of_eq qI) e2, _, _, rfl, rfl, abS (alS (le_of_eq qI) e2) (le_of_eq mD), _, rfl, rdF ha (T.fam.c 3 Z0).cl (T.fam.nn 3 Z0) (hf.nm (by rw [hso]; decide)) ⟨_, _, rfl, rfl, abS (alS (alS (le_of_eq qI) e2) (le_of_eq mD)) e1, q H (az.refl H)⟩⟩⟩
theorem pY (T : Tx K mg C) (F : Fun K "__init__" "Take.__init__" cZ f fd) : aL P w K mg base CX0 1 f fd iT (G6 C) := by
 refine F.oq yw fun _ _ _ _ H _ Q E hr h => ?_
 ·obtain ⟨x, dx, r, rfl, hso, hx, q⟩ := h
  refine ⟨_, QSs.h (aq (fB (pv 0) (pv 1))
   (aq (fB (pv 0) (pv 2))
   (aA (fB (pv 0) (pv 3))))), ?_⟩
  refine ⟨_, rfl, _, rfl, x, _, dx, _, rfl, hx, (T.fam.c 4 Z0).cl, T.fam.nw 4 Z0, lt_of_lt_of_le (zero_lt_one) Z0, _, rfl, _, rfl, x, _, dx, _, rfl, ak, (T.fam.c 4 Z0).cl, T.fam.na 4 Z0, lt_of_lt_of_le (zF zero_lt_one) Z0, _, rfl, _, rfl, x, _, dx, _, rfl, ak, (T.fam.c 4 Z0).cl, T.fam.nn 4 Z0, lt_of_lt_of_le (zF (zF zero_lt_one)) Z0, ?_⟩
  refine q _ (fun b o e hb => by rw [aK hb, aK hb, aK hb]; exact e) fun l => ⟨dx, _, by rw [hso]; exact ak, ?_⟩
  exact ⟨fun _ => lkP, fun k => absurd k Z1, fun _ => (lkN Z4).trans lkP, fun _ => (lkN Z4).trans ((lkN Z4).trans lkP), (lkN Z4).trans ((lkN Z4).trans (lkN Z4)), (lkN Z4).trans ((lkN Z4).trans (lkN Z4)), (lkN Z4).trans ((lkN Z4).trans (lkN Z4))⟩
theorem sI (T : Tx K mg C) (F : Fun K "binds" "Take.binds" fP f fd) : aL P w K mg base CX0 1 f fd lu (spB C 4) := by
 refine F.oq vJ fun _ _ _ _ H _ Q E hr h => ?_
 ·obtain ⟨a, l, r, rfl, hso, ra, q⟩ := h
  refine ⟨_, QSs.h (aA (aO (bC (pv 0) rfl))), ?_⟩
  obtain ⟨dx, fs, ha, hf⟩ := id ra
  rw [hso] at ha
  exact ⟨_, rfl, rdF ha (T.fam.c 4 Z0).cl (T.fam.nn 4 Z0) (hf.nm (by rw [hso]; decide)) (q H (az.refl H))⟩
theorem sW (T : Tx K mg C) (F : Fun K "asked" "Take.asked" fV f fd) : aL P w K mg base CX0 1 f fd lD (spA C 4) := by
 refine F.oq vL fun _ _ _ _ H _ Q E hr h => ?_
 ·obtain ⟨a, l, r, rfl, hso, ra, q⟩ := h
  refine ⟨_, QSs.h (aA (aO (bM (aj (bC (pv 0) rfl) ao)))), ?_⟩
  obtain ⟨dx, fs, ha, hf⟩ := id ra
  rw [hso] at ha
  exact ⟨_, rfl, rdF ha (T.fam.c 4 Z0).cl (T.fam.na 4 Z0) (hf.ad (.inr (.inr hso))) ⟨by show 1 <= sizeLine; decide, fun b hb => q b _ hb (az.new hb) ak⟩⟩
theorem uT (T : Tx K mg C) (F : Fun K "said" "Take.said" gQ f fd) : aL P w K mg base CX0 1 f fd lY (spS C 4) := by
 refine F.oq xP fun _ _ _ _ H _ Q E hr h => ?_
 ·obtain ⟨a, l, r, rfl, hso, ra, hg, q⟩ := h
  refine ⟨_, QSs.h (aA (aO (aN aM (aN aM (aN aM (aN aM (aN aM aC (bC (pv 0) rfl)) aC) (bC (pv 0) rfl)) aC) (bC (pv 0) rfl)))), ?_⟩
  obtain ⟨dx, fs, ha, hf⟩ := id ra
  rw [hso] at ha
  have e1 := hg.nl
  have e2 := hg.al
  have e3 := hg.tl
  have e4 := hg.wd.hi
  rw [K1 hso] at q
  exact ⟨_, rfl, rdF ha (T.fam.c 4 Z0).cl (T.fam.nw 4 Z0) (hf.wd hso) ⟨_, _, rfl, rfl, abS (le_of_eq lG) e4, _, _, rfl, rfl, abS (alS (le_of_eq lG) e4) (le_of_eq len_from), _, rfl, rdF ha (T.fam.c 4 Z0).cl (T.fam.na 4 Z0) (hf.ad (.inr (.inr hso))) ⟨_, _, rfl, rfl, abS (alS (alS (le_of_eq lG) e4) (le_of_eq len_from)) e2, _, _, rfl, rfl, abS (alS (alS (alS (le_of_eq lG) e4) (le_of_eq len_from)) e2) (le_of_eq mD), _, rfl, rdF ha (T.fam.c 4 Z0).cl (T.fam.nn 4 Z0) (hf.nm (by rw [hso]; decide)) ⟨_, _, rfl, rfl, abS (alS (alS (alS (alS (le_of_eq lG) e4) (le_of_eq len_from)) e2) (le_of_eq mD)) e1, q H (az.refl H)⟩⟩⟩⟩
theorem pU (T : Tx K mg C) (F : Fun K "__init__" "Need.__init__" dB f fd) : aL P w K mg base CX0 1 f fd iV (FW C) := by
 refine F.oq yQ fun _ _ _ _ H _ Q E hr h => ?_
 ·obtain ⟨x, dx, r, d, rfl, hso, hx, hts, h10, q⟩ := h
  refine ⟨_, QSs.h (aA (fB (pv 0) (dX fX Z3 T.t_list boot_list (aj (pv 1) ao)))), ?_⟩
  obtain ⟨xs, hl, hxl, hxt⟩ := id hts
  refine ⟨_, rfl, d, _, rfl, .inl (SqL.of hl), fun l hl0 => ⟨_, rfl, x, _, dx, _, rfl, (by rw [aK (aD hx hl0)]; exact hx), (T.fam.c 5 Z0).cl, T.fam.nt 5 Z0, lt_of_lt_of_le (zero_lt_one) Z0, ?_⟩⟩
  have hlx : l ≠ x := (aD hx hl0).symm
  refine q l _ hl0 (sb2 hl0) ⟨dx, _, by rw [hso]; exact ak, ?_⟩
  refine ⟨fun k => absurd k Z1, fun _ => ⟨lkP, xs, by rw [aK hlx]; exact ak, hxl, fun j y e => ?_⟩, fun k => absurd k Z1, fun k => absurd k Z1, lkN Z4, lkN Z4, lkN Z4⟩
  obtain ⟨t, et, tm⟩ := hxt j y e
  exact ⟨t, et, tm.but hx (sb2 hl0)⟩
theorem uy (T : Tx K mg C) (F : Fun K "said" "Need.said" ig f fd) : aL P w K mg base CX0 3 f fd mz (spS C 5) := by
 obtain ⟨fad, dad, Aad⟩ := T.aad
 have Gad : aL P w K mg base CX0 2 fad dad fK xU := nu T Aad.F
 refine F.oq yN fun _ _ _ _ H _ Q E hr h => ?_
 ·obtain ⟨a, l, r, rfl, hso, ra, hg, q⟩ := h
  have hr2 : aY 2 _ := hr
  refine ⟨_, QSs.h (aA (aO (aN aM aC (aX Aad Gad hr2 (aj (bC (pv 0) rfl) ao))))), ?_⟩
  obtain ⟨dx, fs, ha, hf⟩ := id ra
  rw [hso] at ha
  have e1 := hg.nl
  have e2 := hg.al
  have e3 := hg.tl
  have e4 := hg.wd.hi
  rw [KD hso] at q
  refine ⟨_, rfl, rdF ha (T.fam.c 5 Z0).cl (T.fam.nt 5 Z0) ((hf.tm (.inr (.inr hso))).1) ⟨l, r.ts, rfl, (hf.tm (.inr (.inr hso))).2, hg.ts, fun H2 s2 => ⟨_, _, rfl, rfl, abS (le_of_eq Bb) e3, q H2 s2⟩⟩⟩
theorem gC {C : Addr} {m : Str} {f : Addr} {fd : FuncData} {q : Str} {st : Stmt} {ps : List Str} {k : Nat} {sp sp' : Sp} (A : MAt K m q st ps f fd) (M : Meth K C m f) (G : aL P w K mg base CX0 k f fd ps sp) (hk : k <= 3) (h : ∀ vs H Q E, sp' vs H Q E -> sp vs H Q E) : VM P w K mg base 3 C m sp' :=
 ⟨f, fd, ps, M, (G.mono hk).imp h, A.b⟩
theorem rdB {C : Nat -> Addr} (T : Tx K mg C) {H : Hp} {a l : Addr} {r : bV} {Q : VK} (ra : d8 C H a l r) (g : GoodR r) (q : Pur (.str r.nm) H Q) : MV P w K mg base 3 "binds" (.ref a) H Q := by
 obtain ⟨so, nn, aa, ww, tt⟩ := r
 have h5 : so <= 5 := g.so
 obtain ⟨dx, fs, ha, hf⟩ := id ra
 rcases six h5 with rfl | rfl | rfl | rfl | rfl | rfl
 ·obtain ⟨f, fd, A, M⟩ := T.m_Let_binds
  exact ⟨a, C 0, dx, fs, spB C 0, rfl, ha, hf.nb, (T.fam.c 0 Z0).cl, gC A M (vg T A.F) Z0 (fun _ _ _ _ h => h), a, l, _, rfl, rfl, ra, q⟩
 ·obtain ⟨f, fd, A, M⟩ := T.m_Deed_binds
  exact ⟨a, C 1, dx, fs, spB C 1, rfl, ha, hf.nb, (T.fam.c 1 Z0).cl, gC A M (tD T A.F) Z0 (fun _ _ _ _ h => h), a, l, _, rfl, rfl, ra, q⟩
 ·obtain ⟨f, fd, A, M⟩ := T.m_Draw_binds
  exact ⟨a, C 2, dx, fs, spB C 2, rfl, ha, hf.nb, (T.fam.c 2 Z0).cl, gC A M (tE T A.F) Z0 (fun _ _ _ _ h => h), a, l, _, rfl, rfl, ra, q⟩
 ·obtain ⟨f, fd, A, M⟩ := T.m_Late_binds
  exact ⟨a, C 3, dx, fs, spB C 3, rfl, ha, hf.nb, (T.fam.c 3 Z0).cl, gC A M (sX T A.F) Z0 (fun _ _ _ _ h => h), a, l, _, rfl, rfl, ra, q⟩
 ·obtain ⟨f, fd, A, M⟩ := T.m_Take_binds
  exact ⟨a, C 4, dx, fs, spB C 4, rfl, ha, hf.nb, (T.fam.c 4 Z0).cl, gC A M (sI T A.F) Z0 (fun _ _ _ _ h => h), a, l, _, rfl, rfl, ra, q⟩
 ·obtain ⟨f, fd, A, M⟩ := T.m_Row_binds
  exact ⟨a, C 5, dx, fs, GZ, rfl, ha, hf.nb, (T.fam.c 5 Z0).cl, gC A M.1 (uz T A.F) Z0 (fun _ _ _ _ h => h), .ref a, rfl, by have e : nn = "" := g.no rfl; rw [<- e]; exact q⟩
theorem rdA {C : Nat -> Addr} (T : Tx K mg C) {H : Hp} {a l : Addr} {r : bV} {Q : VK} (ra : d8 C H a l r) (g : GoodR r) (q : ∀ b H', H b = none -> az H H' -> H' b = some (.lst ((dR r).map V.str)) -> Q (.ref b) H') : MV P w K mg base 3 "asked" (.ref a) H Q := by
 obtain ⟨so, nn, aa, ww, tt⟩ := r
 have h5 : so <= 5 := g.so
 obtain ⟨dx, fs, ha, hf⟩ := id ra
 rcases six h5 with rfl | rfl | rfl | rfl | rfl | rfl
 ·obtain ⟨f, fd, A, M⟩ := T.m_Row_asked
  exact ⟨a, C 0, dx, fs, xK, rfl, ha, hf.na, (T.fam.c 0 Z0).cl, gC A M.1 (jj T A.F) Z0 (fun _ _ _ _ h => h), .ref a, rfl, fun b H' h1 h2 h3 => q b H' h1 h2 h3⟩
 ·obtain ⟨f, fd, A, M⟩ := T.m_Row_asked
  exact ⟨a, C 1, dx, fs, xK, rfl, ha, hf.na, (T.fam.c 1 Z0).cl, gC A M.2.1 (jj T A.F) Z0 (fun _ _ _ _ h => h), .ref a, rfl, fun b H' h1 h2 h3 => q b H' h1 h2 h3⟩
 ·obtain ⟨f, fd, A, M⟩ := T.m_Draw_asked
  exact ⟨a, C 2, dx, fs, spA C 2, rfl, ha, hf.na, (T.fam.c 2 Z0).cl, gC A M (sZ T A.F) Z0 (fun _ _ _ _ h => h), a, l, _, rfl, rfl, ra, fun b H' h1 h2 h3 => q b H' h1 h2 h3⟩
 ·obtain ⟨f, fd, A, M⟩ := T.m_Late_asked
  exact ⟨a, C 3, dx, fs, spA C 3, rfl, ha, hf.na, (T.fam.c 3 Z0).cl, gC A M (sY T A.F) Z0 (fun _ _ _ _ h => h), a, l, _, rfl, rfl, ra, fun b H' h1 h2 h3 => q b H' h1 h2 h3⟩
 ·obtain ⟨f, fd, A, M⟩ := T.m_Take_asked
  exact ⟨a, C 4, dx, fs, spA C 4, rfl, ha, hf.na, (T.fam.c 4 Z0).cl, gC A M (sW T A.F) Z0 (fun _ _ _ _ h => h), a, l, _, rfl, rfl, ra, fun b H' h1 h2 h3 => q b H' h1 h2 h3⟩
 ·obtain ⟨f, fd, A, M⟩ := T.m_Row_asked
  exact ⟨a, C 5, dx, fs, xK, rfl, ha, hf.na, (T.fam.c 5 Z0).cl, gC A M.2.2.1 (jj T A.F) Z0 (fun _ _ _ _ h => h), .ref a, rfl, fun b H' h1 h2 h3 => q b H' h1 h2 h3⟩
theorem rdS {C : Nat -> Addr} (T : Tx K mg C) {H : Hp} {a l : Addr} {r : bV} {Q : VK} (ra : d8 C H a l r) (g : GoodR r) (q : Pur (.str (bQ r)) H Q) : MV P w K mg base 3 "said" (.ref a) H Q := by
 obtain ⟨so, nn, aa, ww, tt⟩ := r
 have h5 : so <= 5 := g.so
 obtain ⟨dx, fs, ha, hf⟩ := id ra
 rcases six h5 with rfl | rfl | rfl | rfl | rfl | rfl
 ·obtain ⟨f, fd, A, M⟩ := T.m_Let_said
  exact ⟨a, C 0, dx, fs, spS C 0, rfl, ha, hf.ns, (T.fam.c 0 Z0).cl, gC A M (vW T A.F) Z0 (fun _ _ _ _ h => h), a, l, _, rfl, rfl, ra, g, q⟩
 ·obtain ⟨f, fd, A, M⟩ := T.m_Deed_said
  exact ⟨a, C 1, dx, fs, spS C 1, rfl, ha, hf.ns, (T.fam.c 1 Z0).cl, gC A M (ur T A.F) Z0 (fun _ _ _ _ h => h), a, l, _, rfl, rfl, ra, g, q⟩
 ·obtain ⟨f, fd, A, M⟩ := T.m_Draw_said
  exact ⟨a, C 2, dx, fs, spS C 2, rfl, ha, hf.ns, (T.fam.c 2 Z0).cl, gC A M (uZ T A.F) Z0 (fun _ _ _ _ h => h), a, l, _, rfl, rfl, ra, g, q⟩
 ·obtain ⟨f, fd, A, M⟩ := T.m_Late_said
  exact ⟨a, C 3, dx, fs, spS C 3, rfl, ha, hf.ns, (T.fam.c 3 Z0).cl, gC A M (uX T A.F) Z0 (fun _ _ _ _ h => h), a, l, _, rfl, rfl, ra, g, q⟩
 ·obtain ⟨f, fd, A, M⟩ := T.m_Take_said
  exact ⟨a, C 4, dx, fs, spS C 4, rfl, ha, hf.ns, (T.fam.c 4 Z0).cl, gC A M (uT T A.F) Z0 (fun _ _ _ _ h => h), a, l, _, rfl, rfl, ra, g, q⟩
 ·obtain ⟨f, fd, A, M⟩ := T.m_Need_said
  exact ⟨a, C 5, dx, fs, spS C 5, rfl, ha, hf.ns, (T.fam.c 5 Z0).cl, gC A M (uy T A.F) Z0 (fun _ _ _ _ h => h), a, l, _, rfl, rfl, ra, g, q⟩
theorem eZ (T : Tx K mg C) (F : Fun K "__init__" "Part.__init__" dq f fd) : aL P w K mg base CX0 1 f fd dW (yd C) := by
 refine F.oq yL fun _ _ _ _ H _ Q E hr h => ?_
 ·obtain ⟨x, dx, ad, d, rs, rfl, hx, hrs, h12, q⟩ := h
  refine ⟨_, QSs.h (aq (fB (pv 0) (pv 1))
   (aA (fB (pv 0) (dX fX Z3 T.t_list boot_list (aj (pv 2) ao))))), ?_⟩
  obtain ⟨xs, hl, hxl, hxt⟩ := id hrs
  have hdx : d ≠ x := pq hl hx Z7
  refine ⟨_, rfl, _, rfl, x, _, dx, _, rfl, hx, T.pt.cl.cl, T.pt.na, lt_of_lt_of_le (zero_lt_one) Z0, _, rfl, d, _, rfl, .inl (SqL.of (by rw [aK hdx]; exact hl)), fun l hlf => ⟨_, rfl, x, _, dx, _, rfl, (by rw [aK (lL hlf).2.symm]; exact ak), T.pt.cl.cl, T.pt.nr, lt_of_lt_of_le (zF zero_lt_one) Z0, ?_⟩⟩
  obtain ⟨hl0, hlx⟩ := lL hlf
  refine q l _ hl0 (sb3 hl0) ⟨dx, _, ak, (lkN Z4).trans lkP, lkP, (lkN Z4).trans (lkN Z4), (lkN Z4).trans (lkN Z4), (lkN Z4).trans (lkN Z4), ?_⟩
  refine ⟨xs, by rw [aK hlx]; exact ak, hxl, fun j r e => ?_⟩
  obtain ⟨a, t, e2, ra⟩ := hxt j r e
  exact ⟨a, t, e2, ra.but (h12.at e) hx (sb3 hl0)⟩
theorem sU (T : Tx K mg C) (F : Fun K "bound" "Part.bound" gj f fd) : aL P w K mg base CX0 4 f fd iu (DG C) := by
 refine F.oq ph fun _ _ _ _ H _ Q E hr h => ?_
 ·obtain ⟨p, ad, l, rs, rfl, hp, hg, q⟩ := h
  have hr3 : aY 3 _ := hr
  refine ⟨_, QSs.h (aq (gM (N := ["row"]) [none] (i := 1) ph.nd rfl (Or.inl rfl) rfl Z5 (aZ (bC (pv 0) rfl)) (fun cl C fp s H => (aJ (i := 0) (by decide +kernel : (["row"] : List Str).Nodup) rfl (Or.inl rfl))) (fun cl C fp s H => bL) (fun cl C fp s H => (uo (P := P) (w := w) (K := K) (mg := mg) (base := base) rfl rfl rfl rfl rfl hr3 (pv 0))))
   (aA (aO (bF (N := ["name"]) [none] rfl Z5 (aZ (pv 1)) (fun cl C fp s H => (aJ (i := 0) (by decide +kernel : (["name"] : List Str).Nodup) rfl (Or.inl rfl))) (fun cl C fp s H => (lA (aH oE (pv 0) aC (aQ _)))) (fun cl C fp s H => (pv 0)))))), ?_⟩
  obtain ⟨dx, fs, ea, a1, a2, a3, a4, a5, hr0⟩ := id hp
  obtain ⟨xs, hl, hxl, hxt⟩ := id hr0
  refine ⟨_, rfl, rdF ea T.pt.cl.cl T.pt.nr a2 ?_⟩
  have hx12 : xs.length <= sizeLine := le_trans (show xs.length <= 12 by rw [hxl]; exact hg.hi) Z0
  refine ⟨l, rfl, ⟨xs, SqL.of hl⟩, ?_⟩
  refine bB (fun i => (rs.map fun r => V.str r.nm).getD i .non) hx12 (SqL.of hl) (fun i x H' Q' hx sm k => ?_) (fun H' sm b hb => ?_)
  ·have hi : i < rs.length := by rw [<- hxl]; exact (List.getElem?_eq_some_iff.mp hx).1
   obtain ⟨a, t, e2, ra⟩ := hxt i rs[i] (getElem?_eq_getElem hi)
   obtain rfl : x = .ref a := by rw [hx] at e2; exact Option.some.inj e2
   refine ⟨_, rfl, rdB T (ra.same sm) (hg.at (getElem?_eq_getElem hi)) fun H'' s'' => ?_⟩
   have e : (rs.map fun r => V.str r.nm).getD i .non = V.str rs[i].nm := by simp [List.getD, hi]
   rw [<- e]
   exact k H'' s''
  ·have em : (List.range xs.length).map (fun i => (rs.map fun r => V.str r.nm).getD i .non) = rs.map fun r => V.str r.nm := by
    apply ext_getElem
    ·simp [hxl]
    ·intro i h1 h2
     have : i < rs.length := by simpa using h2
     simp [this]
   rw [em]
   refine ⟨_, rfl, b, rfl, ⟨_, SqL.of ak⟩, ?_⟩
   refine dI isE (by rw [length_map, <- hxl]; exact hx12) (SqL.of ak) (fun x H2 Q2 hx s2 k => ?_) (fun x H2 Q2 hx s2 k => ?_) (fun H2 s2 c hc => ?_)
   ·obtain ⟨r, _, rfl⟩ := mem_map.mp hx
    exact ⟨_, rfl, rfl, _, rfl, k H2 (az.refl H2)⟩
   ·exact ⟨_, rfl, k H2 (az.refl H2)⟩
   ·exact q c _ (sm.free ((az.new hb).free (s2.free hc))) (sm.trans ((az.new hb).trans (s2.put hc))) ak
theorem jb (T : Tx K mg C) (F : Fun K "text" "Part.text" gO f fd) : aL P w K mg base CX0 4 f fd dZ (tO C) := by
 refine F.oq zm fun _ _ _ _ H _ Q E hr h => ?_
 ·obtain ⟨p, ad, l, rs, rfl, hp, hg, h36, q⟩ := h
  have hr3 : aY 3 _ := hr
  refine ⟨_, QSs.h (aA (aO (cI plainAttrs_str slot_str_join type_str_join jX aC (aj (aN qX (bM (aj (aN aM aC (bC (pv 0) rfl)) ao)) (bF (N := ["row"]) [none] rfl Z5 (aZ (bC (pv 0) rfl)) (fun cl C fp s H => (aJ (i := 0) (by decide +kernel : (["row"] : List Str).Nodup) rfl (Or.inl rfl))) (fun cl C fp s H => bL) (fun cl C fp s H => (uo (P := P) (w := w) (K := K) (mg := mg) (base := base) rfl rfl rfl rfl rfl hr3 (pv 0))))) ao)))), ?_⟩
  obtain ⟨dx, fs, ea, a1, a2, a3, a4, a5, hr0⟩ := id hp
  obtain ⟨xs, hl, hxl, hxt⟩ := id hr0
  have hx12 : xs.length <= sizeLine := le_trans (show xs.length <= 12 by rw [hxl]; exact hg.hi) Z0
  refine ⟨rfl, _, rfl, rdF ea T.pt.cl.cl T.pt.na a1 ⟨_, _, rfl, rfl, by rw [zR]; exact le_trans (Nat.add_le_add_left h36 5) Z0, by show 1 <= sizeLine; decide, fun b hb => ?_⟩⟩
  have sb : az H (upd H b (.lst [V.str ("part " ++ ad)])) := az.new hb
  refine ⟨_, rfl, rdF (sb _ _ ea) T.pt.cl.cl T.pt.nr a2 ⟨l, rfl, ⟨xs, SqL.of (sb _ _ hl)⟩, ?_⟩⟩
  refine bB (fun i => (rs.map fun r => V.str (bQ r)).getD i .non) hx12 (SqL.of (sb _ _ hl)) (fun i x H' Q' hx sm k => ?_) (fun H' sm c hc => ?_)
  ·have hi : i < rs.length := by rw [<- hxl]; exact (List.getElem?_eq_some_iff.mp hx).1
   obtain ⟨a, t, e2, ra⟩ := hxt i rs[i] (getElem?_eq_getElem hi)
   obtain rfl : x = .ref a := by rw [hx] at e2; exact Option.some.inj e2
   refine ⟨_, rfl, rdS T (ra.same (sb.trans sm)) (hg.at (getElem?_eq_getElem hi)) fun H'' s'' => ?_⟩
   have e : (rs.map fun r => V.str (bQ r)).getD i .non = V.str (bQ rs[i]) := by simp [List.getD, hi]
   rw [<- e]
   exact k H'' s''
  ·have em : (List.range xs.length).map (fun i => (rs.map fun r => V.str (bQ r)).getD i .non) = rs.map fun r => V.str (bQ r) := by
    apply ext_getElem
    ·simp [hxl]
    ·intro i h1 h2
     have : i < rs.length := by simpa using h2
     simp [this]
   rw [em]
   have hbc : b ≠ c := fun z => by rw [z] at sm; exact absurd (sm _ _ ak) (by rw [hc]; intro z; cases z)
   refine ⟨b, c, _, _, rfl, rfl, by rw [aK hbc]; exact sm _ _ ak, ak, by rw [length_map]; exact le_trans (Nat.add_le_add_left hg.hi 1) Z0, fun d hd => ?_⟩
   have sA : az H (upd H' c (.lst (rs.map fun r => V.str (bQ r)))) := (sb.trans sm).put hc
   refine ⟨_, d, ("part " ++ ad) :: rs.map bQ, rfl, rfl, .inl (SqL.of (ak.trans (by rw [map_cons, map_map]; rfl))), ?_, ?_⟩
   ·exact BX hg h36
   ·exact q _ (sA.put hd)
theorem zZ (T : Tx K mg C) (F : Fun K "is_clash" "is_clash" lV f fd) : aL P w K mg base CX0 5 f fd mC (zT C) := by
 obtain ⟨fbh, dbh, Abh, M_bound⟩ := T.m_Part_bound
 have Gbh : aL P w K mg base CX0 4 fbh dbh iu (DG C) := sU T Abh.F
 refine F.oq Bw fun _ _ _ _ H _ Q E hr h => ?_
 ·obtain ⟨p, l, la, ys, zs, rs, rfl, hp, g, hg, hl, q⟩ := h
  have hr4 : aY 4 _ := hr
  refine ⟨_, QSs.h (aA (aO (bw (u6 rfl) Z3 T.any boot_any (aj (bF (N := ["name", "addresses", "part"]) [none, some 1, some 0] rfl Z5 (aZ (jr (pv 0) T.pt.cl.cl M_bound Gbh hr4 Abh.b .nil jl)) (fun cl C fp s H => (aJ (i := 0) (by decide +kernel : (["name", "addresses", "part"] : List Str).Nodup) rfl (Or.inl rfl))) (fun cl C fp s H => bL) (fun cl C fp s H => (o9 (yp (K := K) rfl) (aN aM (aN aM (jL (K := K) rfl (pv 2) rfl) aC) (pv 0)) (pv 1) Z3))) ao)))), ?_⟩
  obtain ⟨dx, fs, ea, a1, a2, a3, a4, a5, hr0⟩ := id hp
  have hfl : (zs.map V.str).all dM = true := by rw [all_eq_true]; intro v hv; obtain ⟨z, _, rfl⟩ := mem_map.mp hv; rfl
  obtain ⟨ns, ens, hns⟩ : ∃ ns : List Str, uW rs = ns.map V.str /\ ∀ n, n ∈ ns ↔ ∃ r ∈ rs, r.nm ≠ "" /\ n = r.nm := Kq rs
  have h12 : ns.length <= 12 := by
   have := length_filter_le isE (rs.map fun r => V.str r.nm)
   have h2 := hg.hi
   rw [length_map] at this
   have h3 : (ns.map V.str).length = ns.length := length_map _
   rw [<- ens] at h3
   unfold uW at h3
   omega
  refine ⟨_, rfl, p, dx, fs, rfl, ea, a3, p, _, l, _, rfl, hp, hg, fun b H1 hb s1 hbl => ?_⟩
  rw [ens] at hbl
  refine ⟨b, rfl, ⟨_, SqL.of hbl⟩, ?_⟩
  let bs : List Bool := ns.map fun n => decide (dotted ys ++ "." ++ n ∈ zs)
  have hbs : bs.length = ns.length := length_map _
  refine bB (fun i => V.bl (bs.getD i false)) (le_trans (show (ns.map V.str).length <= 12 by rw [length_map]; exact h12) Z0) (SqL.of hbl) (fun i x H' Q' hx sm k => ?_) (fun H' sm c hc => ?_)
  ·rw [getElem?_map] at hx
   cases en : ns[i]? with
   | none => rw [en] at hx; cases hx
   | some n =>
    rw [en] at hx
    cases hx
    have s2 := s1.trans sm
    have h8 : n.length <= 8 := by obtain ⟨r, hr, _, rfl⟩ := (hns n).mp (mem_of_getElem? en); exact (hg.ok r hr).nl
    have h36 := g.len
    refine ⟨_, rfl, rdF (s2 _ _ ea) T.pt.cl.cl T.pt.na a1 ⟨_, _, rfl, rfl, abS h36 iJ, _, rfl, _, _, rfl, rfl, abS (alS h36 iJ) h8, _, rfl, la, _, rfl, .inl (SqL.of (s2 _ _ hl)), rfl, hfl, ?_⟩⟩
    have k2 : Q' (V.bl (bs.getD i false)) H' := k H' (az.refl _)
    have e1 : bs.getD i false = inV (V.str (dotted ys ++ "." ++ n)) (zs.map V.str) := by
     rw [eG]
     show (ns.map fun n => decide (dotted ys ++ "." ++ n ∈ zs)).getD i false = _
     rw [getD_eq_getElem?_getD, getElem?_map, en]
     rfl
    rw [e1] at k2
    exact k2
  ·have em : (List.range (ns.map V.str).length).map (fun i => V.bl (bs.getD i false)) = bs.map V.bl := by
    apply ext_getElem
    ·simp [hbs]
    ·intro i h1 h2
     have : i < bs.length := by simpa using h2
     simp [this]
   refine ⟨c, bs, rfl, SqL.of (ak.trans (by rw [em])), ?_⟩
   show Q (V.bl (bs.any id)) _
   refine q _ ?_ _ ((s1.trans sm).put hc)
   show (ns.map fun n => decide (dotted ys ++ "." ++ n ∈ zs)).any id = true ↔ _
   rw [any_map, any_eq_true]
   exact ⟨fun ⟨n, h1, h2⟩ => by obtain ⟨r, hr, hn, rfl⟩ := (hns n).mp h1; exact ⟨r, hr, hn, of_decide_eq_true h2⟩, fun ⟨r, h1, h2, h3⟩ => ⟨r.nm, (hns _).mpr ⟨r, h1, h2, rfl⟩, decide_eq_true h3⟩⟩
theorem vB (T : Tx K mg C) (F : Fun K "check_parts" "check_parts" gU f fd) : aL P w K mg base (CX1 P w) 6 f fd ir (zq C) := by
 obtain ⟨fay, day, Aay⟩ := T.aay
 have Gay : aL P w K mg base CX0 2 fay day jD (wu C) := yS T Aay.F
 obtain ⟨fa4, da4, Aa4⟩ := T.aa4
 have Ga4 : aL P w K mg base CX0 5 fa4 da4 mC (zT C) := zZ T Aa4.F
 obtain ⟨fbf, dbf, Abf⟩ := T.i_TooMany
 have Gbf : aL P w K mg base CX0 1 fbf dbf iy (rO (C 22)) := yU T Abf.F
 obtain ⟨fbi, dbi, Abi⟩ := T.i_Orphan
 have Gbi : aL P w K mg base CX0 1 fbi dbi jc (rO (C 24)) := Aj T Abi.F
 obtain ⟨fbg, dbg, Abg⟩ := T.i_Clash
 have Gbg : aL P w K mg base CX0 1 fbg dbg lH (rO (C 25)) := Ce T Abg.F
 refine F.oqX il fun _ _ _ _ H _ Q E hr h => ?_
 ·obtain ⟨l, ds, rfl, hps, h200, hg, nd, q⟩ := h
  have hr2 : aY 2 _ := hr.mono Z0
  have hr5 : aY 5 _ := hr
  refine ⟨_, QSs.h (aq (gM (N := ["part"]) [none] (i := 1) il.nd rfl (Or.inl rfl) rfl Z5 (aZ (pv 0)) (fun cl C fp s H => (aJ (i := 0) (by decide +kernel : (["part"] : List Str).Nodup) rfl (Or.inl rfl))) (fun cl C fp s H => bL) (fun cl C fp s H => (jL (K := K) rfl (pv 0) rfl)))
   (aA (gm PassesOwn.leaving rfl (JT (K := K) rfl Z3 T.enumerate (aj (pv 0) ao)) (kh (K := K) (n := 2) rfl rfl (bG (aJ (i := 2) il.nd rfl (Or.inl rfl)) (bG (aJ (i := 3) il.nd rfl (Or.inl rfl)) jO)))
   (aq (bA (aH Ov (pv 2) (Ko T.g_MOST_PARTS) (aQ _)) (aA (lE dJ rfl (wy Abf Gbf hr2 T.c_TooMany T.x_TooMany (aj (pv 2) ao)))) aP)
   (aq (bA (aH o7 (bC (pv 3) rfl) (eU jU (pv 1) jB (eV (pv 2))) Z3) Hn aP)
   (aq (bA (fZ (aX Aay Gay hr2 (aj (pv 3) (aj (pv 1) ao)))) (aA (lE dJ rfl (wy Abi Gbi hr2 T.c_Orphan T.x_Orphan (aj (pv 2) ao)))) aP)
   (aA (bA (fZ (aX Aa4 Ga4 hr5 (aj (pv 3) (aj (pv 1) ao)))) (aA (lE dJ rfl (wy Abg Gbg hr2 T.c_Clash T.x_Clash (aj (pv 2) ao)))) aP)))))))), ?_⟩
  obtain ⟨xs, hl, hxl, hxt⟩ := id hps
  have hx12 : xs.length <= sizeLine := le_trans (show xs.length <= 200 by omega) Z0
  have at_ : ∀ {i : Nat} {x : V}, xs[i]? = some x -> ∃ (d : aU) (a lr : Addr), ds[i]? = some d /\ x = .ref a /\ cY C H a (dotted d.ad) lr d.rs := fun {i x} hx => by
   have hi : i < ds.length := by rw [<- hxl]; exact (List.getElem?_eq_some_iff.mp hx).1
   obtain ⟨a, lr, e2, pa⟩ := hxt i ds[i] (getElem?_eq_getElem hi)
   rw [hx] at e2
   exact ⟨ds[i], a, lr, getElem?_eq_getElem hi, Option.some.inj e2, pa⟩
  refine ⟨_, rfl, l, rfl, ⟨_, SqL.of hl⟩, bB (fun i => ((adS ds).map V.str).getD i .non) hx12 (SqL.of hl) (fun i x H' Q' hx sm k => ?_) (fun H1 s1 b hb => ?_)⟩
  ·obtain ⟨d, a, lr, ed, rfl, pa⟩ := at_ hx
   obtain ⟨dx, fs, ea, a1, _⟩ := pa.same sm
   have k2 : Q' (((adS ds).map V.str).getD i .non) H' := k H' (az.refl _)
   have e : ((adS ds).map V.str).getD i .non = V.str (dotted d.ad) := by
    rw [getD_eq_getElem?_getD, getElem?_map]
    unfold adS
    rw [getElem?_map, ed]
    rfl
   rw [e] at k2
   exact ⟨_, rfl, rdF ea T.pt.cl.cl T.pt.na a1 k2⟩
  have em := Ea hxl
  rw [em]
  have s2 : az H (upd H1 b (.lst ((adS ds).map V.str))) := s1.put hb
  have hb2 : (upd H1 b (.lst ((adS ds).map V.str))) b = some (.lst ((adS ds).map V.str)) := ak
  generalize upd H1 b (.lst ((adS ds).map V.str)) = H2 at s2 hb2
  have hfl : ∀ zs : List Str, (zs.map V.str).all dM = true := cG
  refine ⟨_, rfl, l, rfl, ⟨xs, SqL.of (s2 _ _ hl)⟩, ?_⟩
  refine Hu (xs := xs) (fun i σ H' => ∃ v2 v3, σ = [some (.ref l), some (.ref b), v2, v3] /\ az H2 H' /\ ∀ (j : Nat) d, j < i -> ds[j]? = some d -> iI (adS ds) j d = 0) ⟨none, none, rfl, az.refl _, fun j d hj => absurd hj (not_lt_zero _)⟩ (fun i σ H' hi hv => ?_) (fun i x p0 σ H' hx hv hp0 => ?_) (fun σ H' hv => ?_)
  ·obtain ⟨v2, v3, rfl, sm, _⟩ := hv
   exact SqL.of (sm _ _ (s2 _ _ hl))
  ·obtain ⟨v2, v3, rfl, sm, hok⟩ := hv
   obtain ⟨d, a, lr, ed, rfl, pa0⟩ := at_ hx
   have hi : i < ds.length := (List.getElem?_eq_some_iff.mp ed).1
   have gd := hg d (mem_of_getElem? ed)
   have hlog : ((0 + (i : Int))).natAbs.log2 < 1920 := by
    have : ((0 + (i : Int))).natAbs < 2 ^ 1920 := Nat.lt_of_le_of_lt (show _ <= 200 by omega) Z0
    by_cases z : ((0 + (i : Int))).natAbs = 0
    ·rw [z]; decide
    ·exact (Nat.log2_lt z).mpr this
   have s3 : az H (upd H' p0 (.tup [.int (0 + (i : Int)), .ref a])) := (s2.trans sm).put hp0
   have s23 : az H2 (upd H' p0 (.tup [.int (0 + (i : Int)), .ref a])) := sm.put hp0
   obtain ⟨dx, fs, ea, a1, _⟩ := pa0.same s3
   refine ⟨p0, _, rfl, SqT.of ak, rfl, _, _, rfl, _, _, rfl, rfl, ?_⟩
   have raise_ : ∀ {c : Nat} {H4 : Hp} {x p : Addr}, az H H4 -> (c = 1 \/ c = 3 \/ c = 4) -> iI (adS ds) i d = c -> H4 x = none -> (upd H4 x (ExO true x (C (21 + c)) none)) p = none -> p ≠ x ->
     E (.ref x) none (upd (upd (upd (upd H4 x (ExO true x (C (21 + c)) none)) p (XdO p [("at", .int (0 + (i : Int)))])) x (ExO true x (C (21 + c)) (some p))) x (ExO false x (C (21 + c)) (some p))) := fun {c H4 x p} s4 h1 hd hx hp hne => by
    refine (q c i ⟨hok, .inr ⟨h1, d, ed, hd⟩⟩).2 Z1 x _ (s4.trans ((((az.new hx).put hp).over hx).over hx)) ⟨p, ak, ?_⟩
    rw [aK hne, aK hne]
    exact ak.trans (by rw [Int.zero_add, QD h1])
   by_cases h1 : 12 <= i
   ·refine ⟨_, rfl, _, _, rfl, rfl, _, rfl, bR (decide_eq_true Z1) ?_⟩
    exact ⟨_, rfl, fun x hx => ⟨x, _, rfl, ak, hlog, fun p hp hne => ⟨rfl, x, C 22, some p, rfl, ak, T.x_TooMany, raise_ (c := 1) s3 Z0 (Lz h1) hx hp hne⟩⟩⟩
   refine ⟨_, rfl, _, _, rfl, rfl, _, rfl, aV (decide_eq_false Z1) ?_⟩
   refine ⟨_, rfl, rdF ea T.pt.cl.cl T.pt.na a1 ⟨_, rfl, _, rfl, _, rfl, b, _, rfl, SqL.of (s23 _ _ hb2), fun c hc => ?_⟩⟩
   have s4 : az H (upd (upd H' p0 (.tup [.int (0 + (i : Int)), .ref a])) c (.lst (fc ((adS ds).map V.str) none (some (0 + (i : Int)))))) := s3.put hc
   have s24 : az H2 (upd (upd H' p0 (.tup [.int (0 + (i : Int)), .ref a])) c (.lst (fc ((adS ds).map V.str) none (some (0 + (i : Int)))))) := s23.put hc
   have ec : fc ((adS ds).map V.str) none (some (0 + (i : Int))) = ((adS ds).take i).map V.str := by rw [Int.zero_add, Cg, map_take]
   have hc4 : (upd (upd H' p0 (.tup [.int (0 + (i : Int)), .ref a])) c (.lst (fc ((adS ds).map V.str) none (some (0 + (i : Int)))))) c = some (.lst (((adS ds).take i).map V.str)) := ak.trans (by rw [ec])
   generalize upd (upd H' p0 (.tup [.int (0 + (i : Int)), .ref a])) c (.lst (fc ((adS ds).map V.str) none (some (0 + (i : Int))))) = H4 at s4 s24 hc4
   have h2 : dotted d.ad ∉ (adS ds).take i := fun z => Bool.noConfusion ((eG _ _).symm.trans (FT nd ed) |>.symm.trans (decide_eq_true z))
   refine ⟨c, ((adS ds).take i).map V.str, rfl, .inl (SqL.of hc4), rfl, hfl _, _, rfl, aV (by rw [eG, decide_eq_false h2]; rfl) ?_⟩
   refine ⟨_, rfl, _, rfl, a, lr, b, d.ad, adS ds, _, rfl, pa0.same s4, gd.ad, s24 _ _ hb2, fun bo ho H5 s5 => ⟨_, rfl, ?_⟩⟩
   have s5' := s4.trans s5
   have s25 := s24.trans s5
   cases bo with
   | true =>
    refine Lx ⟨_, rfl, fun x hx => ⟨x, _, rfl, ak, hlog, fun p hp hne => ⟨rfl, x, C 24, some p, rfl, ak, T.x_Orphan, raise_ (c := 3) s5' Z0 (Ms h1 (ho.mp rfl)) hx hp hne⟩⟩⟩
   | false =>
    have h3 : ¬ (d.ad.dropLast ≠ [] /\ dotted d.ad.dropLast ∉ adS ds) := fun z => Bool.noConfusion (ho.mpr z)
    refine iR ⟨_, rfl, _, rfl, a, lr, b, d.ad, adS ds, d.rs, rfl, pa0.same s5', gd.ad, gd.rs, s25 _ _ hb2, fun bo ho H6 s6 => ⟨_, rfl, ?_⟩⟩
    cases bo with
    | true =>
     refine Lx ⟨_, rfl, fun x hx => ⟨x, _, rfl, ak, hlog, fun p hp hne => ⟨rfl, x, C 25, some p, rfl, ak, T.x_Clash, raise_ (c := 4) (s5'.trans s6) Z0 (Kf h1 h3 (ho.mp rfl)) hx hp hne⟩⟩⟩
    | false =>
     refine iR ⟨_, _, rfl, s25.trans s6, fun j e hj he => ?_⟩
     rcases Nat.lt_or_eq_of_le (Nat.le_of_lt_succ hj) with z | rfl
     ·exact hok j e z he
     ·rw [ed] at he
      cases he
      exact Ei h1 h3 fun z => Bool.noConfusion (ho.mpr z)
  ·obtain ⟨v2, v3, rfl, sm, hok⟩ := hv
   rw [hxl] at hok
   exact (q 0 ds.length ⟨hok, .inl ⟨rfl, rfl⟩⟩).1 rfl _ (s2.trans sm)
theorem d9 (T : Tx K mg C) (F : Fun K "__init__" "House.__init__" cT f fd) : aL P w K mg base (CX1 P w) 7 f fd cV (tG C) := by
 obtain ⟨fa5, da5, Aa5⟩ := T.aa5
 have Ga5 : aL P w K mg base (CX1 P w) 6 fa5 da5 ir (zq C) := vB T Aa5.F
 refine F.oqX vH fun _ _ _ _ H _ Q E hr h => ?_
 ·obtain ⟨x, dx, d, ds, xs, rfl, hx, hl0, hps, h200, hg, nd, q⟩ := h
  have hr6 : aY 6 _ := hr
  refine ⟨_, QSs.h (aq (bT (Ga Aa5 Ga5 hr6 dJ (aj (pv 1) ao)))
   (aA (fB (pv 0) (dX fX Z3 T.t_list boot_list (aj (pv 1) ao))))), ?_⟩
  refine ⟨_, rfl, d, ds, rfl, ⟨xs, hl0, hps.1, hps.2⟩, h200, hg, nd, fun c i hd => ⟨fun hc H1 s1 => ?_, fun hc => (q c i hd).2 hc⟩⟩
  have hl := s1 _ _ hl0
  have hx1 := s1 _ _ hx
  refine ⟨_, rfl, d, _, rfl, .inl (SqL.of hl), fun l hl0 => ⟨_, rfl, x, _, dx, _, rfl, (by rw [aK (aD hx1 hl0)]; exact hx1), T.hs.cl.cl, T.hs.nt, lt_of_lt_of_le zero_lt_one Z0, ?_⟩⟩
  have hlx : l ≠ x := (aD hx1 hl0).symm
  have sb : SameBut x H1 (upd (upd H1 l (.lst xs)) x (.ins (C 8) dx (lO "told" (.ref l) []))) := sb2 hl0
  exact (q c i hd).1 hc l _ (s1.free hl0) (fun bb o e hb => sb bb o (s1 _ _ e) hb) ⟨dx, _, ak, lkP, lkN Z4, lkN Z4, lkN Z4, lkN Z4, lkN Z4⟩ (by rw [aK hlx]; exact ak)
theorem iC (T : Tx K mg C) (F : Fun K "addresses" "House.addresses" cA f fd) : aL P w K mg base CX0 1 f fd b7 (yR C) := by
 refine F.oq pI fun _ _ _ _ H _ Q E hr h => ?_
 ·obtain ⟨h0, l, ps, rfl, hh, g, q⟩ := h
  refine ⟨_, QSs.h (aA (aO (bw nC Z3 T.sorted boot_sorted (aj (bF (N := ["part"]) [none] rfl Z5 (aZ (bC (pv 0) rfl)) (fun cl C fp s H => (aJ (i := 0) (by decide +kernel : (["part"] : List Str).Nodup) rfl (Or.inl rfl))) (fun cl C fp s H => bL) (fun cl C fp s H => (jL (K := K) rfl (pv 0) rfl))) ao)))), ?_⟩
  obtain ⟨dx, fs, ea, a1, a2, a3, a4, xs, hl, hxl, hxt⟩ := id hh
  have h12 := g.hi
  have hx12 : xs.length <= sizeLine := le_trans (show xs.length <= 12 by omega) Z0
  refine ⟨_, rfl, rdF ea T.hs.cl.cl T.hs.nt a1 ⟨l, rfl, ⟨_, SqL.of hl⟩, bB (fun i => ((adS ps).map V.str).getD i .non) hx12 (SqL.of hl) (fun i x H' Q' hx sm k => ?_) (fun H1 s1 b hb => ?_)⟩⟩
  ·have hi : i < ps.length := by rw [<- hxl]; exact (List.getElem?_eq_some_iff.mp hx).1
   obtain ⟨a, lr, e2, pa⟩ := hxt i ps[i] (getElem?_eq_getElem hi)
   obtain rfl : x = .ref a := by rw [hx] at e2; exact Option.some.inj e2
   obtain ⟨dx, fs, ea, a1, _⟩ := pa.same sm
   have k2 : Q' (((adS ps).map V.str).getD i .non) H' := k H' (az.refl _)
   rw [QF hi] at k2
   exact ⟨_, rfl, rdF ea T.pt.cl.cl T.pt.na a1 k2⟩
  have hlen : (adS ps).length = ps.length := by unfold adS; rw [length_map]
  refine ⟨b, adS ps, rfl, SqL.of (ak.trans (by rw [Ea hxl])), Z1, fun c zs h1 h2 hc => ?_⟩
  exact q c _ zs (s1.free ((az.new hb).free hc)) ((s1.put hb).put hc) h1 h2 ak
theorem gB (T : Tx K mg C) (F : Fun K "has" "House.has" gP f fd) : aL P w K mg base CX0 1 f fd cO (uF C) := by
 refine F.oq yq fun _ _ _ _ H _ Q E hr h => ?_
 ·obtain ⟨h0, l, ps, z, rfl, hh, g, q⟩ := h
  refine ⟨_, QSs.h (aA (aO (bw (u6 rfl) Z3 T.any boot_any (aj (bF (N := ["part", "address"]) [none, some 1] rfl Z5 (aZ (bC (pv 0) rfl)) (fun cl C fp s H => (aJ (i := 0) (by decide +kernel : (["part", "address"] : List Str).Nodup) rfl (Or.inl rfl))) (fun cl C fp s H => bL) (fun cl C fp s H => (o9 cJ (jL (K := K) rfl (pv 0) rfl) (pv 1) (aQ _)))) ao)))), ?_⟩
  obtain ⟨dx, fs, ea, a1, a2, a3, a4, xs, hl, hxl, hxt⟩ := id hh
  have h12 := g.hi
  have hx12 : xs.length <= sizeLine := le_trans (show xs.length <= 12 by omega) Z0
  refine ⟨_, rfl, rdF ea T.hs.cl.cl T.hs.nt a1 ⟨l, rfl, ⟨_, SqL.of hl⟩, bB (fun i => V.bl (((adS ps).map fun y => decide (V.str y = V.str z)).getD i false)) hx12 (SqL.of hl) (fun i x H' Q' hx sm k => ?_) (fun H1 s1 b hb => ?_)⟩⟩
  ·have hi : i < ps.length := by rw [<- hxl]; exact (List.getElem?_eq_some_iff.mp hx).1
   obtain ⟨a, lr, e2, pa⟩ := hxt i ps[i] (getElem?_eq_getElem hi)
   obtain rfl : x = .ref a := by rw [hx] at e2; exact Option.some.inj e2
   obtain ⟨dx, fs, ea, a1, _⟩ := pa.same sm
   have k2 : Q' (V.bl (((adS ps).map fun y => decide (V.str y = V.str z)).getD i false)) H' := k H' (az.refl _)
   have e : ((adS ps).map fun y => decide (V.str y = V.str z)).getD i false = decide (V.str (dotted ps[i].ad) = V.str z) := by simp [adS, List.getD, hi]
   rw [e] at k2
   exact ⟨_, rfl, rdF ea T.pt.cl.cl T.pt.na a1 ⟨_, rfl, rfl, k2⟩⟩
  have em : (List.range xs.length).map (fun i => V.bl (((adS ps).map fun y => decide (V.str y = V.str z)).getD i false)) = ((adS ps).map fun y => decide (V.str y = V.str z)).map V.bl := by
   have hlen : (adS ps).length = ps.length := by unfold adS; rw [length_map]
   apply ext_getElem
   ·simp [hxl, hlen]
   ·intro i h1 h2
    have : i < (adS ps).length := by simpa using h2
    simp [this]
  refine ⟨b, (adS ps).map fun y => decide (V.str y = V.str z), rfl, SqL.of (ak.trans (by rw [em])), ?_⟩
  have e : (((adS ps).map fun y => decide (V.str y = V.str z)).any id) = decide (z ∈ adS ps) := by
   rw [any_map]
   by_cases hz : z ∈ adS ps
   ·rw [decide_eq_true hz, any_eq_true]
    exact ⟨z, hz, decide_eq_true rfl⟩
   ·rw [decide_eq_false hz, List.any_eq_false]
    intro y hy k
    exact hz (V.str.inj (of_decide_eq_true k) ▸ hy)
  show Q (V.bl (((adS ps).map fun y => decide (V.str y = V.str z)).any id)) _
  rw [e]
  exact q _ (s1.put hb)
theorem nQ (T : Tx K mg C) (F : Fun K "part" "House.part" fQ f fd) : aL P w K mg base (CX1 P w) 3 f fd eN (yo C) := by
 obtain ⟨fao, dao, Aao⟩ := T.i_NoPart
 have Gao : aL P w K mg base CX0 1 fao dao gG (zr (C 21) "address") := rW T Aao.F
 refine F.oqX pA fun _ _ _ _ H _ Q E hr h => ?_
 ·obtain ⟨h0, l, ps, z, rfl, hh, g, hz, q, qe⟩ := h
  have hr2 : aY 2 _ := hr
  refine ⟨_, QSs.h (aq (gm PassesOwn.leaving rfl (aZ (bC (pv 0) rfl)) (aJ (i := 2) pA.nd rfl (Or.inl rfl))
   (aA (bA (aH cJ (bC (pv 2) rfl) (pv 1) (aQ _)) (aA (aO (pv 2))) aP)))
   (aA (lE dJ rfl (wy Aao Gao hr2 T.c_NoPart T.x_NoPart (aj (pv 1) ao))))), ?_⟩
  obtain ⟨dx, fs, ea, a1, a2, a3, a4, xs, hl, hxl, hxt⟩ := id hh
  refine ⟨_, rfl, rdF ea T.hs.cl.cl T.hs.nt a1 ⟨l, rfl, ⟨xs, SqL.of hl⟩, ?_⟩⟩
  refine eQ (xs := xs) (fun i σ H' => ∃ v2, σ = [some (.ref h0), some (.str z), v2] /\ az H H' /\ ∀ (j : Nat) p, j < i -> ps[j]? = some p -> ¬ dotted p.ad = z) ⟨none, rfl, az.refl _, fun j p hj => absurd hj (not_lt_zero _)⟩ ?_ ?_ ?_
  ·rintro i σ H' _ ⟨v2, rfl, sm, _⟩
   exact SqL.of (sm _ _ hl)
  ·rintro i x σ H' hx ⟨v2, rfl, sm, hb⟩
   have hi : i < ps.length := by rw [<- hxl]; exact (List.getElem?_eq_some_iff.mp hx).1
   have er : ps[i]? = some ps[i] := getElem?_eq_getElem hi
   obtain ⟨a, lr, e2, pa⟩ := hxt i ps[i] er
   obtain rfl : x = .ref a := by rw [hx] at e2; exact Option.some.inj e2
   obtain ⟨dy, gs, eb, b1, _⟩ := pa.same sm
   refine ⟨_, rfl, rdF eb T.pt.cl.cl T.pt.na b1 ⟨_, rfl, rfl, _, rfl, d7 (fun hy => ?_) (fun hn => ?_)⟩⟩
   ·exact ⟨_, rfl, q i _ a lr H' sm er (V.str.inj hy) (pa.same sm)⟩
   ·refine ⟨_, rfl, sm, fun j p hj e => ?_⟩
    rcases lt_or_ge j i with k | k
    ·exact hb j p k e
    ·obtain rfl : j = i := by omega
     rw [er] at e
     cases e
     exact fun z => hn (congrArg V.str z)
  ·rintro σ H' ⟨v2, rfl, sm, hb⟩
   have hno : z ∉ adS ps := fun hm => by
    obtain ⟨p, hp, e⟩ := mem_map.mp hm
    obtain ⟨j, hj, ej⟩ := getElem_of_mem hp
    exact hb j p Z1 (by rw [getElem?_eq_getElem hj, ej]) e
   refine ⟨_, rfl, fun x hx => ⟨x, .str z, rfl, ak, ⟨z, rfl, hz⟩, fun p hp hne => ⟨rfl, x, C 21, some p, rfl, ak, T.x_NoPart, ?_⟩⟩⟩
   have s1 : az H' (upd (upd (upd (upd H' x (ExO true x (C 21) none)) p (XdO p [("address", .str z)])) x (ExO true x (C 21) (some p))) x (ExO false x (C 21) (some p))) := (((az.new hx).put hp).over hx).over hx
   exact qe hno x _ (sm.trans s1) ⟨p, ak, by rw [aK hne, aK hne]; exact ak⟩
theorem oA (T : Tx K mg C) (F : Fun K "with_part" "House.with_part" cB f fd) : aL P w K mg base (CX1 P w) 9 f fd dg (Gf C) := by
 obtain ⟨fac, dac, Aac, M_hhas⟩ := T.m_House_has
 have Gac : aL P w K mg base CX0 1 fac dac cO (uF C) := gB T Aac.F
 obtain ⟨fah, dah, Aah, M_House⟩ := T.i_House
 have Gah : aL P w K mg base (CX1 P w) 7 fah dah cV (tG C) := d9 T Aah.F
 refine F.oqX qy fun _ _ _ _ H _ Q E hr h => ?_
 ·obtain ⟨h0, l, p, lr, ps, n, rfl, hh, g, hp, gn, q⟩ := h
  have hr1 : aY 1 _ := hr.mono Z0
  have hr2 : aY 2 _ := hr.mono Z0
  have hr8 : aY 8 _ := hr
  refine ⟨_, QSs.h (aq (bA (xr (fZ (tY (pv 0) T.hs.cl.cl M_hhas Gac hr1 Aac.b .nil jl (aj (bC (pv 1) rfl) ao)))) (aA (aO (xT M_House Aah.b Gah hr8 T.c_House dJ (aj (aN qX (bC (pv 0) rfl) (bM (aj (pv 1) ao))) ao)))) aP)
   (aA (aO (xT M_House Aah.b Gah hr8 T.c_House dJ (aj (bF (N := ["one", "part"]) [none, some 1] rfl Z5 (aZ (bC (pv 0) rfl)) (fun cl C fp s H => (aJ (i := 0) (by decide +kernel : (["one", "part"] : List Str).Nodup) rfl (Or.inl rfl))) (fun cl C fp s H => bL) (fun cl C fp s H => (zy (aH cJ (jL (K := K) rfl (pv 0) rfl) (jL (K := K) rfl (pv 1) rfl) (aQ _)) (pv 1) (pv 0)))) ao))))), ?_⟩
  obtain ⟨dx, fs, ea, a1, a2, a3, a4, xs, hl, hxl, hxt⟩ := id hh
  obtain ⟨dp, fp, eb, b1, _⟩ := id hp
  have h12 := g.hi
  have hx12 : xs.length <= sizeLine := le_trans (show xs.length <= 12 by omega) Z0
  have h200 : (mW ps n).length <= 200 := le_trans Jd Z1
  have hg := Dc g.ok gn
  have nd := Dy (n := n) g.nd
  have fin : ∀ {c i : Nat}, pC (mW ps n) c i -> (c = 0 -> ∀ h l H', az H H' -> cC C H' h l (mW ps n) -> Q (.ref h) H') /\ (c ≠ 0 -> ∀ x H', az H H' -> GR C H' x (21 + c) (.int i) -> E (.ref x) none H') := fun {c i} hd =>
   ⟨fun hc => (q _ ⟨c, i, hd, rfl⟩).1 _ (if_pos hc), fun hc => (q _ ⟨c, i, hd, rfl⟩).2 _ _ (if_neg hc)⟩
  refine ⟨_, rfl, h0, dx, fs, rfl, ea, a3, _, rfl, rdF eb T.pt.cl.cl T.pt.na b1 ⟨h0, l, ps, dotted n.ad, rfl, hh, g, fun H1 s1 => ⟨_, rfl, ?_⟩⟩⟩
  by_cases hin : dotted n.ad ∈ adS ps
  ·refine aV (by rw [decide_eq_true hin]; rfl) ?_
   refine ⟨_, rfl, rdF (s1 _ _ ea) T.hs.cl.cl T.hs.nt a1 ⟨l, rfl, ⟨_, SqL.of (s1 _ _ hl)⟩, ?_⟩⟩
   have el : mW ps n = ps.map fun p => if dotted p.ad = dotted n.ad then n else p := if_pos hin
   refine jk (xs := xs) (fun τ => ∃ u, τ = [u, some (.ref p)]) (fun i v H' => ∃ d a la, (mW ps n)[i]? = some d /\ v = V.ref a /\ cY C H' a (dotted d.ad) la d.rs)
    (fun i v H' H'' ⟨d, a, la, e, ev, pa⟩ s => ⟨d, a, la, e, ev, pa.same s⟩) hx12 (SqL.of (s1 _ _ hl)) ⟨_, rfl⟩ (fun i x τ H2 Q' hx s2 hS k => ?_) (fun ys H2 s2 hyl hys d hd => ?_)
   ·obtain ⟨u, rfl⟩ := hS
    have hi : i < ps.length := by rw [<- hxl]; exact (List.getElem?_eq_some_iff.mp hx).1
    obtain ⟨a, la, e2, pa⟩ := hxt i ps[i] (getElem?_eq_getElem hi)
    obtain rfl : x = .ref a := by rw [hx] at e2; exact Option.some.inj e2
    have s02 := s1.trans s2
    have pa2 := pa.same s02
    obtain ⟨dx2, fs2, ea2, c1, _⟩ := id pa2
    have ep : (mW ps n)[i]? = some (if dotted ps[i].ad = dotted n.ad then n else ps[i]) := by rw [el, getElem?_map, getElem?_eq_getElem hi]; rfl
    refine ⟨_, rfl, rdF ea2 T.pt.cl.cl T.pt.na c1 ⟨_, rfl, rdF (s02 _ _ eb) T.pt.cl.cl T.pt.na b1 ⟨rfl, _, rfl, d7 (fun he => ⟨_, rfl, ?_⟩) (fun he => ⟨_, rfl, ?_⟩)⟩⟩⟩
    ·rw [if_pos (V.str.inj he)] at ep
     exact k _ _ H2 ⟨_, rfl⟩ (az.refl _) ⟨_, p, lr, ep, rfl, hp.same s02⟩
    ·rw [if_neg (fun z => he (congrArg V.str z))] at ep
     exact k _ _ H2 ⟨_, rfl⟩ (az.refl _) ⟨_, a, la, ep, rfl, pa2⟩
   have px : mU C H2 ys (mW ps n) := ⟨by rw [hyl, hxl, el, length_map], fun i d e => by
    have hi : i < ys.length := by rw [hyl, hxl]; have := (List.getElem?_eq_some_iff.mp e).1; rw [el, length_map] at this; exact this
    obtain ⟨d2, a, la, e1, e2, pa⟩ := hys i _ (getElem?_eq_getElem hi)
    rw [e] at e1
    cases e1
    exact ⟨a, la, by rw [getElem?_eq_getElem hi, e2], pa⟩⟩
   have s3 : az H (upd H2 d (.lst ys)) := (s1.trans s2).put hd
   have px3 := px.same (az.new (o := .lst ys) hd)
   have hd3 : (upd H2 d (.lst ys)) d = some (.lst ys) := ak
   generalize upd H2 d (.lst ys) = H3 at s3 px3 hd3
   exact fun x dx hx hdx hne => ⟨x, dx, d, _, _, rfl, ak, (bu hx hdx) _ _ hd3, px3.same (bu hx hdx), h200, hg, nd, fun c i hdue => ⟨fun hc lh H5 hlh sb hhd hlx =>
    have s35 : az H3 H5 := fun b o e => sb b o (bu hx hdx b o e) (aD e hx)
    ⟨rfl, (fin hdue).1 hc x lh H5 (s3.trans s35) (lU hhd hlx (px3.same s35))⟩, fun hc e H5 s5 er => (fin hdue).2 hc e H5 (s3.trans ((bu hx hdx).trans s5)) er⟩⟩
  ·refine bR (by rw [decide_eq_false hin]; rfl) ?_
   have el : mW ps n = ps ++ [n] := if_neg hin
   refine ⟨_, rfl, rdF (s1 _ _ ea) T.hs.cl.cl T.hs.nt a1 ⟨_, rfl, by show 1 <= sizeLine; decide, fun o ho => ?_⟩⟩
   have s2 := s1.put (o := .lst [V.ref p]) ho
   refine ⟨l, o, xs, [V.ref p], rfl, rfl, s2 _ _ hl, ak, le_trans (show xs.length + 1 <= 13 by omega) Z0, fun d hd => ?_⟩
   have px : mU C (upd H1 o (.lst [V.ref p])) (xs ++ [V.ref p]) (mW ps n) := by
    rw [el]
    refine ⟨by rw [length_append, length_append, hxl]; rfl, fun i e ei => ?_⟩
    rcases lt_or_ge i ps.length with z | z
    ·rw [getElem?_append_left z] at ei
     obtain ⟨a, la, e1, pa⟩ := hxt i e ei
     exact ⟨a, la, by rw [getElem?_append_left Z1]; exact e1, pa.same s2⟩
    ·rw [getElem?_append_right z] at ei
     have hj : i - ps.length = 0 := by
      have := (List.getElem?_eq_some_iff.mp ei).1
      simp at this
      omega
     rw [hj] at ei
     cases ei
     exact ⟨p, lr, by rw [getElem?_append_right Z1, hxl, hj]; rfl, hp.same s2⟩
   have s3 : az H (upd (upd H1 o (.lst [V.ref p])) d (.lst (xs ++ [V.ref p]))) := s2.put hd
   have px3 := px.same (az.new (o := .lst (xs ++ [V.ref p])) hd)
   have hd3 : (upd (upd H1 o (.lst [V.ref p])) d (.lst (xs ++ [V.ref p]))) d = some (.lst (xs ++ [V.ref p])) := ak
   generalize upd (upd H1 o (.lst [V.ref p])) d (.lst (xs ++ [V.ref p])) = H3 at s3 px3 hd3
   exact fun x dx hx hdx hne => ⟨x, dx, d, _, _, rfl, ak, (bu hx hdx) _ _ hd3, px3.same (bu hx hdx), h200, hg, nd, fun c i hdue => ⟨fun hc lh H5 hlh sb hhd hlx =>
    have s35 : az H3 H5 := fun b o e => sb b o (bu hx hdx b o e) (aD e hx)
    ⟨rfl, (fin hdue).1 hc x lh H5 (s3.trans s35) (lU hhd hlx (px3.same s35))⟩, fun hc e H5 s5 er => (fin hdue).2 hc e H5 (s3.trans ((bu hx hdx).trans s5)) er⟩⟩
theorem p6 (T : Tx K mg C) (F : Fun K "without" "House.without" dm f fd) : aL P w K mg base (CX1 P w) 9 f fd dU (wk C) := by
 obtain ⟨faf, daf, Aaf⟩ := T.aaf
 have Gaf : aL P w K mg base CX0 1 faf daf fG qm := nO T Aaf.F
 obtain ⟨fao, dao, Aao⟩ := T.i_NoPart
 have Gao : aL P w K mg base CX0 1 fao dao gG (zr (C 21) "address") := rW T Aao.F
 obtain ⟨fbo, dbo, Abo⟩ := T.i_NoDrop
 have Gbo : aL P w K mg base CX0 1 fbo dbo je (zr (C 26) "address") := Bg T Abo.F
 obtain ⟨fac, dac, Aac, M_hhas⟩ := T.m_House_has
 have Gac : aL P w K mg base CX0 1 fac dac cO (uF C) := gB T Aac.F
 obtain ⟨fah, dah, Aah, M_House⟩ := T.i_House
 have Gah : aL P w K mg base (CX1 P w) 7 fah dah cV (tG C) := d9 T Aah.F
 refine F.oqX rG fun _ _ _ _ H _ Q E hr h => ?_
 ·obtain ⟨h0, l, ps, z, rfl, hh, g, hz, q⟩ := h
  have hr1 : aY 1 _ := hr.mono Z0
  have hr2 : aY 2 _ := hr.mono Z0
  have hr8 : aY 8 _ := hr
  refine ⟨_, QSs.h (aq (bA (xr (fZ (tY (pv 0) T.hs.cl.cl M_hhas Gac hr1 Aac.b .nil jl (aj (pv 1) ao)))) (aA (lE dJ rfl (wy Aao Gao hr2 T.c_NoPart T.x_NoPart (aj (pv 1) ao)))) aP)
   (aq (bA (fZ (bw (u6 rfl) Z3 T.any boot_any (aj (bF (N := ["one", "address"]) [none, some 1] rfl Z5 (aZ (bC (pv 0) rfl)) (fun cl C fp s H => (aJ (i := 0) (by decide +kernel : (["one", "address"] : List Str).Nodup) rfl (Or.inl rfl))) (fun cl C fp s H => bL) (fun cl C fp s H => (o9 cJ (aX Aaf Gaf hr1 (aj (jL (K := K) rfl (pv 0) rfl) ao)) (pv 1) (aQ _)))) ao))) (aA (lE dJ rfl (wy Abo Gbo hr2 T.c_NoDrop T.x_NoDrop (aj (pv 1) ao)))) aP)
   (aA (aO (xT M_House Aah.b Gah hr8 T.c_House dJ (aj (bF (N := ["one", "address"]) [none, some 1] rfl Z5 (aZ (bC (pv 0) rfl)) (fun cl C fp s H => (aJ (i := 0) (by decide +kernel : (["one", "address"] : List Str).Nodup) rfl (Or.inl rfl))) (fun cl C fp s H => (lA (aH oE (jL (K := K) rfl (pv 0) rfl) (pv 1) (aQ _)))) (fun cl C fp s H => (pv 0))) ao)))))), ?_⟩
  obtain ⟨dx, fs, ea, a1, a2, a3, a4, xs, hl, hxl, hxt⟩ := id hh
  have h12 := g.hi
  have hx12 : xs.length <= sizeLine := le_trans (show xs.length <= 12 by omega) Z0
  refine ⟨_, rfl, h0, dx, fs, rfl, ea, a3, _, rfl, h0, l, ps, z, rfl, hh, g, fun H1 s1 => ⟨_, rfl, ?_⟩⟩
  have at_ : ∀ {i : Nat} {x : V} {H2 : Hp}, xs[i]? = some x -> az H H2 -> ∃ d a la, ps[i]? = some d /\ x = .ref a /\ cY C H2 a (dotted d.ad) la d.rs := fun {i x H2} hx s => by
   have hi : i < ps.length := by rw [<- hxl]; exact (List.getElem?_eq_some_iff.mp hx).1
   obtain ⟨a, lr, e2, pa⟩ := hxt i ps[i] (getElem?_eq_getElem hi)
   rw [hx] at e2
   exact ⟨ps[i], a, lr, getElem?_eq_getElem hi, Option.some.inj e2, pa.same s⟩
  by_cases hin : z ∈ adS ps
  ·refine aV (by rw [decide_eq_true hin]; rfl) ?_
   let bs : List Bool := ps.map fun p => decide (fu p.ad = z)
   have hbs : bs.length = ps.length := length_map _
   refine ⟨_, rfl, rdF (s1 _ _ ea) T.hs.cl.cl T.hs.nt a1 ⟨l, rfl, ⟨_, SqL.of (s1 _ _ hl)⟩, bB (fun i => V.bl (bs.getD i false)) hx12 (SqL.of (s1 _ _ hl)) (fun i x H' Q' hx sm k => ?_) (fun H2 s2 b hb => ?_)⟩⟩
   ·obtain ⟨d, a, la, ed, rfl, pa⟩ := at_ hx (s1.trans sm)
    obtain ⟨dx2, fs2, ea2, c1, _⟩ := id pa
    have gd := (g.at ed).ad
    refine ⟨_, rfl, rdF ea2 T.pt.cl.cl T.pt.na c1 ⟨d.ad, rfl, gd, fun H3 s3 => ⟨_, rfl, rfl, ?_⟩⟩⟩
    have k2 : Q' (V.bl (bs.getD i false)) H3 := k H3 s3
    have e1 : bs.getD i false = decide (V.str (fu d.ad) = V.str z) := by
     show (ps.map fun p => decide (fu p.ad = z)).getD i false = _
     rw [getD_eq_getElem?_getD, getElem?_map, ed]
     exact decide_eq_decide.mpr ⟨congrArg V.str, V.str.inj⟩
    rw [e1] at k2
    exact k2
   have em : (List.range xs.length).map (fun i => V.bl (bs.getD i false)) = bs.map V.bl := by
    apply ext_getElem
    ·simp [hbs, hxl]
    ·intro i h1 h2
     have : i < bs.length := by simpa using h2
     simp [this]
   refine ⟨b, bs, rfl, SqL.of (ak.trans (by rw [em])), ?_⟩
   have s3 : az H (upd H2 b (.lst ((List.range xs.length).map fun i => V.bl (bs.getD i false)))) := (s1.trans s2).put hb
   generalize upd H2 b (.lst ((List.range xs.length).map fun i => V.bl (bs.getD i false))) = H3 at s3
   have ea_ : bs.any id = true ↔ ∃ p ∈ ps, fu p.ad = z := by
    show (ps.map fun p => decide (fu p.ad = z)).any id = true ↔ _
    rw [any_map, any_eq_true]
    exact ⟨fun ⟨n, h1, h2⟩ => ⟨n, h1, of_decide_eq_true h2⟩, fun ⟨n, h1, h2⟩ => ⟨n, h1, decide_eq_true h2⟩⟩
   refine ⟨_, rfl, ?_⟩
   by_cases hk : ∃ p ∈ ps, fu p.ad = z
   ·refine bR (ea_.mpr hk) ?_
    refine ⟨_, rfl, fun x hx => ⟨x, .str z, rfl, ak, ⟨z, rfl, hz⟩, fun p hp hne => ⟨rfl, x, C 26, some p, rfl, ak, T.x_NoDrop, ?_⟩⟩⟩
    have s4 : az H3 (upd (upd (upd (upd H3 x (ExO true x (C 26) none)) p (XdO p [("address", .str z)])) x (ExO true x (C 26) (some p))) x (ExO false x (C 26) (some p))) := (((az.new hx).put hp).over hx).over hx
    exact (q _ (.inr (.inl ⟨hin, hk, rfl⟩))).2 _ _ rfl x _ (s3.trans s4) ⟨p, ak, by rw [aK hne, aK hne]; exact ak⟩
   ·refine aV (Bool.eq_false_iff.mpr fun u => hk (ea_.mp u)) ?_
    have ok := vm g hk
    have f := yC (xs := xs) (ps := ps) (p := fun i => decide (((adS ps).getD i "") ≠ z)) (F := fun p => decide (dotted p.ad ≠ z)) hxl (fun i d e => by
     show decide ((adS ps).getD i "" ≠ z) = _
     unfold adS
     rw [getD_eq_getElem?_getD, getElem?_map, e]
     rfl) ps.length (le_refl _)
    rw [take_length, <- hxl] at f
    refine ⟨_, rfl, rdF (s3 _ _ ea) T.hs.cl.cl T.hs.nt a1 ⟨l, rfl, ⟨_, SqL.of (s3 _ _ hl)⟩, nY (fun i => decide (((adS ps).getD i "") ≠ z)) (fun i => xs.getD i .non) hx12 (SqL.of (s3 _ _ hl)) (fun i x H' Q' hx sm k => ?_) (fun i x H' Q' hx sm k => ?_) (fun H4 s4 d hd => ?_)⟩⟩
    ·obtain ⟨d, a, la, ed, rfl, pa⟩ := at_ hx (s3.trans sm)
     obtain ⟨dx2, fs2, ea2, c1, _⟩ := id pa
     have k2 := k H' (az.refl _)
     have e1 : decide (((adS ps).getD i "") ≠ z) = !decide (V.str (dotted d.ad) = V.str z) := by
      unfold adS
      rw [getD_eq_getElem?_getD, getElem?_map, ed]
      show decide (¬ dotted d.ad = z) = _
      by_cases u : dotted d.ad = z
      ·simp [u]
      ·simp [u]
     simp only [e1] at k2
     exact ⟨_, rfl, rdF ea2 T.pt.cl.cl T.pt.na c1 ⟨_, rfl, rfl, _, rfl, k2⟩⟩
    ·have k2 := k H' (az.refl _)
     have e1 : xs.getD i .non = x := by rw [getD_eq_getElem?_getD, hx]; rfl
     rw [e1] at k2
     exact ⟨_, rfl, k2⟩
    obtain ⟨f1, f2⟩ := f
    have s5 : az H (upd H4 d (.lst (((List.range xs.length).filter fun i => decide (((adS ps).getD i "") ≠ z)).map fun i => xs.getD i .non))) := (s3.trans s4).put hd
    have px3 : mU C (upd H4 d (.lst (((List.range xs.length).filter fun i => decide (((adS ps).getD i "") ≠ z)).map fun i => xs.getD i .non))) (((List.range xs.length).filter fun i => decide (((adS ps).getD i "") ≠ z)).map fun i => xs.getD i .non) (ut ps z) := ⟨f1, fun j p e => by
     obtain ⟨i, v, e1, e2, e3⟩ := f2 j p e
     obtain ⟨d, a, la, ed, rfl, pa⟩ := at_ e2 s5
     rw [e1] at ed
     cases ed
     exact ⟨a, la, e3, pa⟩⟩
    have hd3 : (upd H4 d (.lst (((List.range xs.length).filter fun i => decide (((adS ps).getD i "") ≠ z)).map fun i => xs.getD i .non))) d = some (.lst (((List.range xs.length).filter fun i => decide (((adS ps).getD i "") ≠ z)).map fun i => xs.getD i .non)) := ak
    generalize ((List.range xs.length).filter fun i => decide (((adS ps).getD i "") ≠ z)).map (fun i => xs.getD i .non) = ys at s5 px3 hd3
    generalize upd H4 d (.lst ys) = H5 at s5 px3 hd3
    refine fun x dx hx hdx hne => ⟨x, dx, d, _, _, rfl, ak, (bu hx hdx) _ _ hd3, px3.same (bu hx hdx), le_trans ok.hi Z0, ok.ok, ok.nd, fun c i hdue => ?_⟩
    obtain ⟨rfl, rfl⟩ := ye hdue (Gj ok)
    refine ⟨fun hc lh H6 hlh sb hhd hlx => ⟨rfl, ?_⟩, fun hc => absurd rfl hc⟩
    have s56 : az H5 H6 := fun b o e => sb b o (bu hx hdx b o e) (aD e hx)
    exact (q _ (.inr (.inr ⟨hin, hk, rfl⟩))).1 _ rfl x lh H6 (s5.trans s56) (lU hhd hlx (px3.same s56))
  ·refine bR (by rw [decide_eq_false hin]; rfl) ?_
   refine ⟨_, rfl, fun x hx => ⟨x, .str z, rfl, ak, ⟨z, rfl, hz⟩, fun p hp hne => ⟨rfl, x, C 21, some p, rfl, ak, T.x_NoPart, ?_⟩⟩⟩
   have s4 : az H1 (upd (upd (upd (upd H1 x (ExO true x (C 21) none)) p (XdO p [("address", .str z)])) x (ExO true x (C 21) (some p))) x (ExO false x (C 21) (some p))) := (((az.new hx).put hp).over hx).over hx
   exact (q _ (.inl ⟨hin, rfl⟩)).2 _ _ rfl x _ (s1.trans s4) ⟨p, ak, by rw [aK hne, aK hne]; exact ak⟩
theorem Bf (T : Tx K mg C) (F : Fun K "named_by" "named_by" lX f fd) : aL P w K mg base CX0 4 f fd nF (De C) := by
 obtain ⟨fa1, da1, Aa1⟩ := T.aa1
 have Ga1 : aL P w K mg base CX0 1 fa1 da1 jA tM := zN T Aa1.F
 refine F.oq pW fun _ _ _ _ H _ Q E hr h => ?_
 ·obtain ⟨a, t, r, rfl, ra, gr, q⟩ := h
  have hr1 : aY 1 _ := hr.mono Z0
  have hr3 : aY 3 _ := hr
  refine ⟨_, QSs.h (aq (aW (i := 1) pW.nd rfl (Or.inl rfl) (bM ao))
   (aq (gm PassesOwn.never rfl (aZ (uo (P := P) (w := w) (K := K) (mg := mg) (base := base) rfl rfl rfl rfl rfl hr3 (pv 0))) (aJ (i := 2) pW.nd rfl (Or.inl rfl))
   (aq (bT (cI plainAttrs_list PySem.F.slot_list_extend PySem.F.type_list_extend wZ (pv 1) (aj (aX Aa1 Ga1 hr1 (aj (pv 2) ao)) ao)))
   (aA (bA (fZ (bw Cr Z3 T.inst boot_isinstance (aj (pv 0) (aj (Ri T.c_Take) ao)))) (aA (bT (cI plainAttrs_list PySem.F.slot_list_append PySem.F.type_list_append cF (pv 1) (aj (aN aM (aN aM (pv 2) aC) (bC (pv 0) rfl)) ao)))) aP))))
   (aA (aO (pv 1))))), ?_⟩
  refine ⟨by show 0 <= sizeLine; decide, fun F hF => ?_⟩
  have s1 : az H (upd H F (.lst [])) := az.new hF
  have hF1 : (upd H F (.lst [])) F = some (.lst []) := ak
  generalize upd H F (.lst []) = H1 at s1 hF1
  refine ⟨_, rfl, rdA T (ra.same s1) gr (fun b H2 hb s2 hb2 => ?_)⟩
  refine ⟨b, rfl, ⟨_, SqL.of hb2⟩, ?_⟩
  have s02 := s1.trans s2
  have hF2 := s2 _ _ hF1
  have hFb : b ≠ F := (aD hF1 hb).symm
  have ha1 : (dR r).length <= 1 := by unfold dR; split <;> simp
  refine eQ (xs := (dR r).map V.str) (fun i σ H' => ∃ v2, σ = [some (.ref a), some (.ref F), v2] /\ az H H' /\ H' b = some (.lst ((dR r).map V.str)) /\ H' F = some (.lst ((((dR r).take i).flatMap fun ad => pP ad ++ (if r.so = 4 then [ad ++ "." ++ r.wd] else [])).map V.str))) ⟨none, rfl, s02, hb2, by simpa using hF2⟩ ?_ ?_ ?_
  ·rintro i σ H' _ ⟨v2, rfl, sm, hb', _⟩
   exact SqL.of hb'
  ·rintro i x σ H' hx ⟨v2, rfl, sm, hb', hF'⟩
   rw [getElem?_map] at hx
   obtain ⟨ad, ead, rfl⟩ : ∃ ad, (dR r)[i]? = some ad /\ x = V.str ad := by
    cases e : (dR r)[i]? with
    | none => rw [e] at hx; cases hx
    | some y => rw [e] at hx; cases hx; exact ⟨y, rfl, rfl⟩
   have hi0 : i = 0 := by have := (List.getElem?_eq_some_iff.mp ead).1; omega
   have e1 : ad = r.ad := by
    have := mem_of_getElem? ead
    unfold dR at this
    split at this
    ·simpa using this
    ·simp at this
   obtain ⟨ys, gy, ey⟩ := gr.ad
   rw [rA ead]
   subst hi0
   subst e1
   rw [List.take_zero, List.flatMap_nil, nil_append]
   have hF0 : H' F = some (.lst []) := hF'
   refine ⟨_, rfl, .inl ⟨rfl, _, SqL.of hF0⟩, _, rfl, ys, (show [V.str r.ad] = [V.str (dotted ys)] by rw [ey]), gy, fun p H3 hp s3 hp3 => ⟨F, p, _, _, rfl, rfl, s3 _ _ hF0, hp3, le_trans (show 0 + ((fL ys).map V.str).length <= 3 by rw [length_map, lN]; have := gy.hi; omega) Z0, ?_⟩⟩
   rw [nil_append, <- qU gy, <- ey]
   have hl4 : ((pP r.ad).map V.str).length < 1000 := by rw [ey, qU gy, length_map, lN]; have := gy.hi; omega
   have s4 : az H (upd H3 F (.lst ((pP r.ad).map V.str))) := (sm.trans s3).over hF
   have hF4 : (upd H3 F (.lst ((pP r.ad).map V.str))) F = some (.lst ((pP r.ad).map V.str)) := ak
   have hb4 : (upd H3 F (.lst ((pP r.ad).map V.str))) b = some (.lst ((dR r).map V.str)) := by rw [aK hFb]; exact s3 _ _ hb'
   generalize upd H3 F (.lst ((pP r.ad).map V.str)) = H4 at s4 hF4 hb4
   obtain ⟨dx, fs, era, hf⟩ := id (ra.same s4)
   have kt := T.fam.kit r.so 4 (le_trans gr.so Z0) Z0
   have ty : pM K H4 (.ref a) (.ref (C r.so)) := (T.fam.c r.so (le_trans gr.so Z0)).ty era
   by_cases h4 : r.so = 4
   ·have hk : sJ r.so 4 = true := by rw [h4]; rfl
    rw [hk] at kt
    rw [if_pos h4]
    have hw := hf.wd h4
    rw [h4] at era
    refine ⟨_, rfl, _, _, _, _, rfl, ty, kt, _, rfl, Lx ?_⟩
    have h36 : r.ad.length <= 36 := by rw [ey]; exact gy.len
    refine ⟨_, rfl, .inl ⟨rfl, _, SqL.of hF4⟩, _, rfl, _, _, rfl, rfl, abS h36 iJ, _, rfl, rdF era (T.fam.c 4 Z0).cl (T.fam.nw 4 Z0) hw ⟨_, _, rfl, rfl, abS (alS h36 iJ) gr.wd.hi, F, _, _, rfl, rfl, hF4, lt_of_lt_of_le hl4 iM, ?_⟩⟩
    exact ⟨_, rfl, s4.over hF, by rw [aK hFb]; exact hb4, ak.trans (by rw [map_append]; rfl)⟩
   ·have hk : sJ r.so 4 = false := by unfold sJ; rw [decide_eq_false h4]; rfl
    rw [hk] at kt
    rw [if_neg h4, append_nil]
    exact ⟨_, rfl, _, _, _, _, rfl, ty, kt, _, rfl, iR ⟨_, rfl, s4, hb4, hF4⟩⟩
  ·rintro σ H' ⟨v2, rfl, sm, hb', hF'⟩
   rw [length_map, take_length] at hF'
   exact ⟨_, rfl, q F H' hF sm hF'⟩
theorem GD (T : Tx K mg C) (F : Fun K "links" "links" t6 f fd) : aL P w K mg base (CX1 P w) 5 f fd qF (Ed C) := by
 obtain ⟨faf, daf, Aaf⟩ := T.aaf
 have Gaf : aL P w K mg base CX0 1 faf daf fG qm := nO T Aaf.F
 obtain ⟨fbc, dbc, Abc⟩ := T.abc
 have Gbc : aL P w K mg base CX0 4 fbc dbc nF (De C) := Bf T Abc.F
 obtain ⟨faq, daq, Aaq, M_haddresses⟩ := T.m_House_addresses
 have Gaq : aL P w K mg base CX0 1 faq daq b7 (yR C) := iC T Aaq.F
 obtain ⟨fap, dap, Aap, M_hpart⟩ := T.m_House_part
 have Gap : aL P w K mg base (CX1 P w) 3 fap dap eN (yo C) := nQ T Aap.F
 refine F.oqX qg fun _ _ _ _ H _ Q E hr h => ?_
 ·obtain ⟨h0, l, ps, z, rfl, hh, g, hz, q, qe⟩ := h
  have hr1 : aY 1 _ := hr.mono Z0
  have hr3 : aY 3 _ := hr.mono Z0
  have hr4 : aY 4 _ := hr
  refine ⟨_, QSs.h (aq (aW (i := 2) qg.nd rfl (Or.inl rfl) (qx (pv 0) T.hs.cl.cl M_hpart Gap hr3 Aap.b dJ (aj (pv 1) ao)))
   (aq (aW (i := 3) qg.nd rfl (Or.inr rfl) (bM (aj (aX Aaf Gaf hr1 (aj (pv 1) ao)) ao)))
   (aq (gm PassesOwn.leaving rfl (aZ (bC (pv 2) rfl)) (aJ (i := 4) qg.nd rfl (Or.inl rfl))
   (aA (bT (cI plainAttrs_list PySem.F.slot_list_extend PySem.F.type_list_extend wZ (pv 3) (aj (aX Abc Gbc hr4 (aj (pv 4) ao)) ao)))))
   (aA (aO (bF (N := ["one", "named"]) [none, some 3] rfl Z5 (aZ (jr (pv 0) T.hs.cl.cl M_haddresses Gaq hr1 Aaq.b .nil jl)) (fun cl C fp s H => (aJ (i := 0) (by decide +kernel : (["one", "named"] : List Str).Nodup) rfl (Or.inl rfl))) (fun cl C fp s H => (lA (aH (yp (K := K) rfl) (pv 0) (pv 1) Z3))) (fun cl C fp s H => (pv 0)))))))), ?_⟩
  obtain ⟨dx, fs, ea, a1, a2, a3, a4, _⟩ := id hh
  refine ⟨_, rfl, h0, dx, fs, rfl, ea, a4.1, _, rfl, h0, l, ps, z, rfl, hh, g, hz, fun i p a lr H1 s1 ei ez pa => ?_, qe⟩
  have q1 := q i p ei ez
  clear q qe
  subst ez
  have gp := g.at ei
  refine ⟨_, rfl, p.ad, rfl, gp.ad, fun H2 s2 => ⟨by show 1 <= sizeLine; decide, fun F hF => ?_⟩⟩
  have s02 := s1.trans s2
  have hF0 : H F = none := s02.free hF
  have s3 : az H2 (upd H2 F (.lst [V.str (fu p.ad)])) := az.new hF
  have hF3 : (upd H2 F (.lst [V.str (fu p.ad)])) F = some (.lst [V.str (fu p.ad)]) := ak
  generalize upd H2 F (.lst [V.str (fu p.ad)]) = H3 at s3 hF3
  have pa2 := pa.same s2
  obtain ⟨dp, fp, eb, b1, b2, b3, b4, b5, xs, hl, hxl, hxt⟩ := id pa2
  have h12 := gp.rs.hi
  refine ⟨_, rfl, rdF (s3 _ _ eb) T.pt.cl.cl T.pt.nr b2 ⟨lr, rfl, ⟨_, SqL.of (s3 _ _ hl)⟩, ?_⟩⟩
  refine eQ (xs := xs) (fun k σ H' => ∃ v4, σ = [some (.ref h0), some (.str (dotted p.ad)), some (.ref a), some (.ref F), v4] /\ az H2 H' /\ H' F = some (.lst ((fu p.ad :: (p.rs.take k).flatMap eX).map V.str))) ⟨none, rfl, s3, hF3⟩ ?_ ?_ ?_
  ·rintro k σ H' _ ⟨v4, rfl, sm, hF'⟩
   exact SqL.of (sm _ _ hl)
  ·rintro k x σ H' hx ⟨v4, rfl, sm, hF'⟩
   have hk : k < p.rs.length := by rw [<- hxl]; exact (List.getElem?_eq_some_iff.mp hx).1
   have er : p.rs[k]? = some p.rs[k] := getElem?_eq_getElem hk
   obtain ⟨ra, t, e2, rat⟩ := hxt k _ er
   obtain rfl : x = .ref ra := by rw [hx] at e2; exact Option.some.inj e2
   have gr := gp.rs.at er
   have h4 := rC gr
   have h5 := Fv (rs := p.rs.take k) fun r hr => gp.rs.ok r (mem_of_mem_take hr)
   have h6 : (p.rs.take k).length <= 12 := le_trans (length_take_le' _ _) h12
   refine ⟨_, rfl, .inl ⟨rfl, _, SqL.of hF'⟩, _, rfl, ra, t, p.rs[k], rfl, rat.same sm, gr, fun b H5 hb s5 hb5 => ⟨F, b, _, _, rfl, rfl, s5 _ _ hF', hb5, le_trans (show ((fu p.ad :: (p.rs.take k).flatMap eX).map V.str).length + ((eX p.rs[k]).map V.str).length <= 60 by rw [length_map, length_map, length_cons]; omega) Z0, ?_⟩⟩
   exact ⟨_, rfl, (sm.trans s5).over hF, ak.trans (by rw [rA er, <- map_append, List.cons_append])⟩
  ·rintro σ H' ⟨v4, rfl, sm, hF'⟩
   rw [hxl, take_length] at hF'
   have s0' := s02.trans sm
   refine ⟨_, rfl, h0, dx, fs, rfl, s0' _ _ ea, a2, h0, l, ps, rfl, hh.same s0', g, fun b H6 zs hb s6 hz1 hz2 hb6 => ⟨b, rfl, ⟨_, SqL.of hb6⟩, ?_⟩⟩
   have hzl : zs.length <= 12 := by rw [hz1.length_eq]; unfold adS; rw [length_map]; exact g.hi
   have hfl : ∀ zs : List Str, (zs.map V.str).all dM = true := cG
   refine dI (xs := zs.map V.str) (fun v => inV v ((linked p).map V.str)) (le_trans (show (zs.map V.str).length <= 12 by rw [length_map]; exact hzl) Z0) (SqL.of hb6) (fun x H7 Q' hx s7 k => ?_) (fun x H7 Q' hx s7 k => ?_) (fun H7 s7 c hc => ?_)
   ·obtain ⟨y, _, rfl⟩ := mem_map.mp hx
    exact ⟨_, rfl, _, rfl, F, _, rfl, .inl (SqL.of ((s6.trans s7) _ _ hF')), rfl, hfl _, _, rfl, k H7 (az.refl _)⟩
   ·exact ⟨_, rfl, k H7 (az.refl _)⟩
   rw [Dd]
   exact q1 c _ zs ((s0'.trans (s6.trans s7)).free hc) ((s0'.trans (s6.trans s7)).put hc) hz1 hz2 ak
theorem xN (T : Tx K mg C) (F : Fun K "_law_words" "_law_words" jz f fd) : aL P w K mg base CX0 2 f fd tX Dn := by
 obtain ⟨faa, daa, Aaa⟩ := T.aaa
 have Gaa : aL P w K mg base CX0 1 faa daa jo mL := jy Aaa.F
 refine F.oq jQ fun _ _ _ _ H _ Q E hr h => ?_
 ·obtain ⟨c, rfl, q⟩ := h
  have hr1 : aY 1 _ := hr
  refine ⟨_, QSs.h (aq (aW (i := 1) jQ.nd rfl (Or.inr rfl) aC)
   (aq (aW (i := 2) jQ.nd rfl (Or.inr rfl) (bF (N := ["_law_k", "_law_letters", "_law_cell_here"]) [none, some 1, some 0] rfl Z5 (gF Z3 T.range (aj au ao)) (fun cl C fp s H => (aJ (i := 0) (by decide +kernel : (["_law_k", "_law_letters", "_law_cell_here"] : List Str).Nodup) rfl (Or.inl rfl))) (fun cl C fp s H => bL) (fun cl C fp s H => (bc IK (pv 1) (aX Aaa Gaa hr1 (aj (pv 2) (aj (aN cN au (pv 0)) (aj au ao))))))))
   (aq (bA (aH cJ (aX Aaa Gaa hr1 (aj (pv 0) (aj au (aj au ao)))) au (aQ _)) (aA (aO (bF (N := ["_law_k", "_law_base"]) [none, some 2] rfl Z5 (gF Z3 T.range (aj au ao)) (fun cl C fp s H => (aJ (i := 0) (by decide +kernel : (["_law_k", "_law_base"] : List Str).Nodup) rfl (Or.inl rfl))) (fun cl C fp s H => bL) (fun cl C fp s H => (mj (K := K) rfl plainAttrs_str slot_str_join type_str_join (uB rfl) aC (aj (eU (uh (K := K) rfl) (pv 1) jB (eV (aN cN (pv 0) au))) ao)))))) aP)
   (aq (bA (aH cJ (aX Aaa Gaa hr1 (aj (pv 0) (aj au (aj au ao)))) au (aQ _)) (aA (aO (Mu (cz aC (cz aC (cz aC (cz aC (cz aC (cz aC (cz aC (cz aC Iv))))))))))) aP)
   (aq (aW (i := 3) jQ.nd rfl (Or.inl rfl) (aN cN au (aX Aaa Gaa hr1 (aj (pv 0) (aj au (aj au ao))))))
   (aq (aW (i := 4) jQ.nd rfl (Or.inl rfl) (aX Aaa Gaa hr1 (aj (pv 0) (aj au (aj (pv 3) ao)))))
   (aq (aW (i := 5) jQ.nd rfl (Or.inr rfl) (aX Aaa Gaa hr1 (aj (pv 0) (aj au (aj au ao)))))
   (aq (aW (i := 6) jQ.nd rfl (Or.inr rfl) (cI plainAttrs_str slot_str_join type_str_join jX aC (aj (eU jU (pv 2) jB (eV (pv 4))) ao)))
   (aq (aW (i := 7) jQ.nd rfl (Or.inr rfl) (cI plainAttrs_str slot_str_join type_str_join jX aC (aj (eU jU (pv 2) (eV (aN cN (pv 4) au)) (eV (pv 3))) ao)))
   (aA (aO (bF (N := ["_law_k", "_law_tail", "_law_head", "_law_letters", "_law_first"]) [none, some 7, some 6, some 1, some 5] rfl Z5 (gF Z3 T.range (aj au ao)) (fun cl C fp s H => (aJ (i := 0) (by decide +kernel : (["_law_k", "_law_tail", "_law_head", "_law_letters", "_law_first"] : List Str).Nodup) rfl (Or.inl rfl))) (fun cl C fp s H => bL) (fun cl C fp s H => (aN aM (aN aM (pv 2) (bc IK (pv 3) (aN ji (aN cN (pv 4) (pv 0)) au))) (pv 1))))))))))))))), ?_⟩
  refine ⟨_, rfl, Z0, Z0, nU (fun i v H' => ∃ b : Int, v = V.str (lt1 b) /\ 0 <= b /\ b < 26) (fun i v H' H'' h _ => h) (by show 8 <= sizeLine; decide) (fun i H' Q' hi sm k' => ?_) (fun xs H1 s1 hl hx B hB => ?_)⟩
  ·have hi' : i < 8 := hi
   exact ⟨_, rfl, _, rfl, _, rfl, _, _, rfl, rfl, c, 8 + (0 + (i : Int)), 26, rfl, Z1, Z1, Z0, fun H5 s5 => ⟨letters, _, _, rfl, rfl, Z4, lat (gR c _ Z0) (jK c _ Z0), k' _ H5 s5 ⟨_, rfl, gR c _ Z0, jK c _ Z0⟩⟩⟩
  obtain ⟨bs, hbl, rfl, hbr⟩ := MF hx
  have hb8 : bs.length = 8 := by rw [length_map, length_map] at hl; exact hl
  have s02 : az H (upd H1 B (.lst ((bs.map lt1).map V.str))) := s1.put hB
  have hB2 : (upd H1 B (.lst ((bs.map lt1).map V.str))) B = some (.lst ((bs.map lt1).map V.str)) := ak
  generalize upd H1 B (.lst ((bs.map lt1).map V.str)) = H2 at s02 hB2
  refine ⟨_, rfl, c, 2, 4, rfl, Z0, Z0, Z0, fun H3 s3 => ⟨rfl, _, rfl, d7 (fun _ => ?_) (fun _ => ?_)⟩⟩
  ·refine ⟨_, rfl, Z0, Z0, nU (fun i v H' => v = V.str (oh (bs.take (i + 1)))) (fun i v H' H'' h _ => h) (by show 8 <= sizeLine; decide) (fun i H' Q' hi sm k' => ?_) (fun xs H4 s4 hl4 hx4 l hl0 => ?_)⟩
   ·have hi' : i < 8 := hi
    have ec : fc ((bs.map lt1).map V.str) none (some (0 + (i : Int) + 1)) = ((bs.take (i + 1)).map lt1).map V.str := by
     rw [qu _ Z1, show (0 + (i : Int) + 1).toNat = i + 1 from by omega]
     simp only [map_take]
    have h8 : (bs.take (i + 1)).length <= 8 := by rw [length_take]; omega
    exact ⟨rfl, _, rfl, _, rfl, _, _, rfl, rfl, _, rfl, B, _, rfl, SqL.of ((s3.trans sm) _ _ hB2), fun w hw => ⟨_, w, (bs.take (i + 1)).map lt1, rfl, rfl, .inl (SqL.of (ak.trans (by rw [ec]))), vC h8, k' _ _ (az.new hw) (congrArg V.str (u9 _))⟩⟩
   ·obtain rfl : xs = (Ad bs).map V.str := (Kg (fun i => V.str (oh (bs.take (i + 1)))) hl4 hx4).trans (by unfold Ad; rw [map_map]; rfl)
    exact q l _ (Ad bs) ((s02.trans (s3.trans s4)).free hl0) ((s02.trans (s3.trans s4)).put hl0) (by unfold Ad; rw [length_map, length_range]) (Ku hbr hb8) ak
  refine ⟨_, rfl, c, 2, 4, rfl, Z0, Z0, Z0, fun H4 s4 => ⟨rfl, _, rfl, d7 (fun _ => ?_) (fun _ => ?_)⟩⟩
  ·exact ⟨by show 8 <= sizeLine; decide, fun l hl0 => q l _ Lk ((s02.trans (s3.trans s4)).free hl0) ((s02.trans (s3.trans s4)).put hl0) rfl JM ak⟩
  have s04 := s02.trans (s3.trans s4)
  have z1 := gR c 3 (m := 8) Z0
  have z2 := jK c 3 (m := 8) Z0
  refine ⟨_, rfl, c, 3, 8, rfl, Z0, Z0, Z0, fun H5 s5 => ⟨_, _, rfl, rfl, ?_⟩⟩
  generalize pick c 3 8 = sz at z1 z2
  have o1 := gR c 4 (m := 1 + sz) Z1
  have o2 := jK c 4 (m := 1 + sz) Z1
  refine ⟨_, rfl, _, rfl, c, 4, 1 + sz, rfl, Z0, Z0, Z1, fun H6 s6 => ?_⟩
  generalize pick c 4 (1 + sz) = at_ at o1 o2
  have f1 := gR c 5 (m := 26) Z0
  refine ⟨_, rfl, c, 5, 26, rfl, Z0, Z0, Z0, fun H7 s7 => ?_⟩
  generalize pick c 5 26 = fi at f1
  have s27 : az H2 H7 := s3.trans (s4.trans (s5.trans (s6.trans s7)))
  have ha8 : (bs.take at_.toNat).length <= 8 := by rw [length_take]; omega
  have ec1 : fc ((bs.map lt1).map V.str) none (some at_) = ((bs.take at_.toNat).map lt1).map V.str := by rw [qu _ o1]; simp only [map_take]
  refine ⟨rfl, _, rfl, _, rfl, _, rfl, B, _, rfl, SqL.of (s27 _ _ hB2), fun w hw => ⟨_, w, (bs.take at_.toNat).map lt1, rfl, rfl, .inl (SqL.of (ak.trans (by rw [ec1]))), vC ha8, ?_⟩⟩
  have s28 : az H2 (upd H7 w (.lst (fc ((bs.map lt1).map V.str) none (some at_)))) := s27.put hw
  generalize upd H7 w (.lst (fc ((bs.map lt1).map V.str) none (some at_))) = H8 at s28
  have ew1 := u9 (bs.take at_.toNat)
  generalize Txt.join ("" : Str) ((bs.take at_.toNat).map lt1) = hd at ew1
  subst ew1
  have hd8 : ((bs.drop (at_ + 1).toNat).take ((1 + sz).toNat - (at_ + 1).toNat)).length <= (1 + sz).toNat - (at_ + 1).toNat := length_take_le _ _
  have ec2 : fc ((bs.map lt1).map V.str) (some (at_ + 1)) (some (1 + sz)) = (((bs.drop (at_ + 1).toNat).take ((1 + sz).toNat - (at_ + 1).toNat)).map lt1).map V.str := by
   rw [JV _ Z1 Z1 (by rw [length_map]; omega) (by rw [length_map]; omega)]
   simp only [map_take, List.map_drop]
  refine ⟨rfl, _, rfl, _, rfl, _, _, rfl, rfl, _, rfl, _, rfl, _, rfl, B, _, rfl, SqL.of (s28 _ _ hB2), fun w2 hw2 => ⟨_, w2, ((bs.drop (at_ + 1).toNat).take ((1 + sz).toNat - (at_ + 1).toNat)).map lt1, rfl, rfl, .inl (SqL.of (ak.trans (by rw [ec2]))), vC Z1, ?_⟩⟩
  have s29 : az H2 (upd H8 w2 (.lst (fc ((bs.map lt1).map V.str) (some (at_ + 1)) (some (1 + sz))))) := s28.put hw2
  generalize upd H8 w2 (.lst (fc ((bs.map lt1).map V.str) (some (at_ + 1)) (some (1 + sz)))) = H9 at s29
  have ew2 := u9 ((bs.drop (at_ + 1).toNat).take ((1 + sz).toNat - (at_ + 1).toNat))
  generalize Txt.join ("" : Str) (((bs.drop (at_ + 1).toNat).take ((1 + sz).toNat - (at_ + 1).toNat)).map lt1) = tl at ew2
  subst ew2
  have hdr : xH ((bs.drop (at_ + 1).toNat).take ((1 + sz).toNat - (at_ + 1).toNat)) := fun k hk => hbr k (List.mem_of_mem_drop (mem_of_mem_take hk))
  generalize (bs.drop (at_ + 1).toNat).take ((1 + sz).toNat - (at_ + 1).toNat) = ds at hd8 hdr
  have hal : (bs.take at_.toNat).length <= at_.toNat := length_take_le _ _
  have har := hbr.take at_.toNat
  generalize bs.take at_.toNat = as at hal har
  refine ⟨_, rfl, Z0, Z0, nU (fun i v H' => ∃ z, v = V.str z /\ cQ z) (fun i v H' H'' h _ => h) (by show 8 <= sizeLine; decide) (fun i H' Q' hi sm k' => ?_) (fun xs H10 s10 hl10 hx10 l hl0 => ?_)⟩
  ·have la : (oh as).length <= 8 := by rw [zb]; omega
   have ld : (oh ds).length <= 8 := by rw [zb]; omega
   have m1 : 0 <= (fi + (0 + (i : Int))) % 26 := by omega
   have m2 : (fi + (0 + (i : Int))) % 26 < 26 := by omega
   exact ⟨_, rfl, _, rfl, _, rfl, _, rfl, _, _, rfl, rfl, _, _, rfl, rfl, by show (0 : Int) < 26; decide, letters, _, _, rfl, rfl, Z4, lat m1 m2, _, _, rfl, rfl, abS la (le_refl 1), _, rfl, _, _, rfl, rfl, abS (alS la (le_refl 1)) ld, k' _ H' (az.refl _) ⟨_, rfl, M3 har hdr m1 m2 Z1⟩⟩
  ·obtain ⟨ws, hwl, rfl, hwn⟩ := HB hx10
   have h8 : ws.length = 8 := by rw [length_map] at hl10; exact hl10
   exact q l _ ws ((s02.trans (s29.trans s10)).free hl0) ((s02.trans (s29.trans s10)).put hl0) h8 hwn ak
theorem rE (T : Tx K mg C) (F : Fun K "_law_addresses" "_law_addresses" eY f fd) : aL P w K mg base CX0 2 f fd jT Gd := by
 obtain ⟨faa, daa, Aaa⟩ := T.aaa
 have Gaa : aL P w K mg base CX0 1 faa daa jo mL := jy Aaa.F
 refine F.oq dG fun _ _ _ _ H _ Q E hr h => ?_
 ·obtain ⟨c, n, lw, ws, rfl, n1, n12, hlw, hw8, hwn, q⟩ := h
  have hr1 : aY 1 _ := hr
  refine ⟨_, QSs.h (aq (aW (i := 3) dG.nd rfl (Or.inl rfl) (bM ao))
   (aq (gm PassesOwn.never rfl (gF Z3 T.range (aj (pv 1) ao)) (aJ (i := 4) dG.nd rfl (Or.inl rfl))
   (aq (aW (i := 5) dG.nd rfl (Or.inl rfl) (aN qX (bM (aj aC ao)) (bF (N := ["_law_one"]) [none] rfl Z5 (aZ (pv 3)) (fun cl C fp s H => (aJ (i := 0) (by decide +kernel : (["_law_one"] : List Str).Nodup) rfl (Or.inl rfl))) (fun cl C fp s H => (lA (aH CV (mj (K := K) rfl plainAttrs_str slot_str_count type_str_count vd (pv 0) (aj aC ao)) au (aQ _)))) (fun cl C fp s H => (pv 0)))))
   (aq (aW (i := 6) dG.nd rfl (Or.inl rfl) (bc bI (pv 5) (aX Aaa Gaa hr1 (aj (pv 0) (aj (aN jn au (pv 4)) (aj (bw bz Z3 T.len boot_len (aj (pv 5) ao)) ao))))))
   (aq (aW (i := 7) dG.nd rfl (Or.inl rfl) (bc bI (pv 2) (aX Aaa Gaa hr1 (aj (pv 0) (aj (aN cN (aN jn au (pv 4)) au) (aj au ao))))))
   (aq (bA (aH oE (pv 6) aC (aQ _)) (aA (aW (i := 7) dG.nd rfl (Or.inl rfl) (aN aM (aN aM (pv 6) aC) (pv 7)))) aP)
   (aA (bA (aH cP (pv 7) (pv 3) Z3) (aA (bT (cI plainAttrs_list PySem.F.slot_list_append PySem.F.type_list_append cF (pv 3) (aj (pv 7) ao)))) aP)))))))
   (aq (bA (aH cJ (aX Aaa Gaa hr1 (aj (pv 0) (aj au (aj au ao)))) au (aQ _)) (aA (bT (Gv plainAttrs_list PySem.F.slot_list_reverse PySem.F.type_list_reverse Ca (pv 3)))) aP)
   (aA (aO (pv 3)))))), ?_⟩
  refine ⟨by show 0 <= sizeLine; decide, fun F hF => ?_⟩
  have s1 : az H (upd H F (.lst [])) := az.new hF
  have hF1 : (upd H F (.lst [])) F = some (.lst ((([] : List (List Str)).map dotted).map V.str)) := ak
  generalize upd H F (.lst []) = H1 at s1 hF1
  have hfl : ∀ zs : List Str, (zs.map V.str).all dM = true := cG
  refine ⟨_, rfl, _, rfl, Z1, Z1, ?_⟩
  refine oX (fun i σ H2 => ∃ v4 v5 v6 v7, ∃ as : List (List Str), σ = [some (.int c), some (.int n), some (.ref lw), some (.ref F), v4, v5, v6, v7] /\ az H H2 /\ H2 F = some (.lst ((as.map dotted).map V.str)) /\ cR as /\ as.length <= i /\ (0 < i -> as ≠ []))
   ⟨none, none, none, none, [], rfl, s1, hF1, ⟨Z0, (fun a ha => by cases ha), List.Pairwise.nil, (fun a ha => by cases ha)⟩, le_refl _, fun z => absurd z (lt_irrefl _)⟩ ?_ ?_
  ·rintro i σ H2 hi ⟨v4, v5, v6, v7, as, rfl, sm, hF2, g, hal, hane⟩
   have hi12 : i < 12 := by omega
   refine ⟨by show 1 <= sizeLine; decide, fun b hb => ?_⟩
   have sb : az H2 (upd H2 b (.lst [V.str ""])) := az.new hb
   have hb3 : (upd H2 b (.lst [V.str ""])) b = some (.lst [V.str ""]) := ak
   generalize upd H2 b (.lst [V.str ""]) = H3 at sb hb3
   have hlen : ((as.map dotted).map V.str).length <= 12 := by rw [length_map, length_map]; omega
   refine ⟨_, rfl, F, rfl, ⟨_, SqL.of (sb _ _ hF2)⟩, dI (xs := (as.map dotted).map V.str) fW (le_trans hlen Z0) (SqL.of (sb _ _ hF2)) (fun x H' Q' hx sm2 k => ?_) (fun x H' Q' hx sm2 k => ?_) (fun H4 s4 d hd => ?_)⟩
   ·obtain ⟨z, _, rfl⟩ := mem_map.mp hx
    exact ⟨_, rfl, rfl, _, _, rfl, rfl, _, _, rfl, rfl, _, rfl, k H' (az.refl _)⟩
   ·exact ⟨_, rfl, k H' (az.refl _)⟩
   have hflt : (((as.map dotted).map V.str).filter fW).length <= 12 := le_trans (length_filter_le _ _) hlen
   have hbd : b ≠ d := (aD (s4 _ _ hb3) hd)
   refine ⟨b, d, _, _, rfl, rfl, by rw [aK hbd]; exact s4 _ _ hb3, ak, le_trans (show 1 + _ <= 1 + 12 from Nat.add_le_add_left hflt 1) Z0, fun e he => ?_⟩
   have s5 : az H2 (upd (upd H4 d (.lst (((as.map dotted).map V.str).filter fW))) e (.lst ([V.str ""] ++ ((as.map dotted).map V.str).filter fW))) := ((sb.trans s4).put hd).put he
   have he5 : (upd (upd H4 d (.lst (((as.map dotted).map V.str).filter fW))) e (.lst ([V.str ""] ++ ((as.map dotted).map V.str).filter fW))) e = some (.lst ((("" : Str) :: (as.map dotted).filter fun z => fW (.str z)).map V.str)) := ak.trans (by rw [fM]; rfl)
   generalize upd (upd H4 d (.lst (((as.map dotted).map V.str).filter fW))) e (.lst ([V.str ""] ++ ((as.map dotted).map V.str).filter fW)) = H5 at s5 he5
   have hz0 : ∀ z ∈ ("" : Str) :: (as.map dotted).filter (fun z => fW (.str z)), z = "" \/ ∃ a ∈ as, z = dotted a /\ a.length <= 2 := fun z hz => by
    rcases mem_cons.mp hz with rfl | hz
    ·exact .inl rfl
    ·have hm : V.str z ∈ ((as.map dotted).map V.str).filter fW := by rw [fM]; exact mem_map.mpr ⟨z, hz, rfl⟩
     obtain ⟨a, ha, ea, hl⟩ := G9 g hm
     exact .inr ⟨a, ha, V.str.inj ea, hl⟩
   have hne0 : (("" : Str) :: (as.map dotted).filter fun z => fW (.str z)) ≠ [] := by simp
   generalize (("" : Str) :: (as.map dotted).filter fun z => fW (.str z)) = zs at he5 hz0 hne0
   have hzl : 0 < (zs.length : Int) := by have := length_pos_iff.mpr hne0; omega
   obtain ⟨z, hz, eat⟩ := cu (c := c) (k := 2 * (0 + (i : Int))) hne0
   refine ⟨_, rfl, _, rfl, _, rfl, _, _, rfl, rfl, .inl ⟨Z0, Z0⟩, _, rfl, e, _, rfl, .inl (SqL.of he5), c, 2 * (0 + (i : Int)), zs.length, (by rw [length_map]; rfl), Z1, Z1, hzl, fun H6 s6 => ⟨e, _, _, _, rfl, rfl, SqL.of (s6 _ _ he5), eat, ?_⟩⟩
   have hw0 : ws ≠ [] := fun z => by rw [z] at hw8; cases hw8
   obtain ⟨w, hw, eaw⟩ := cu (c := c) (k := 2 * (0 + (i : Int)) + 1) hw0
   rw [hw8] at eaw
   have s26 : az H2 H6 := s5.trans s6
   refine ⟨_, rfl, _, rfl, _, rfl, _, _, rfl, rfl, .inl ⟨Z0, Z0⟩, _, _, rfl, rfl, c, 2 * (0 + (i : Int)) + 1, 8, rfl, Z1, Z1, Z0, fun H7 s7 => ⟨lw, _, _, _, rfl, rfl, SqL.of ((sm.trans (s26.trans s7)) _ _ hlw), eaw, ?_⟩⟩
   have s27 : az H2 H7 := s26.trans s7
   have nw := hwn w hw
   have hF7 := s27 _ _ hF2
   by_cases hz1 : z = ""
   ·refine ⟨_, rfl, rfl, _, rfl, jh (decide_eq_true (congrArg V.str hz1)) ?_⟩
    have ga : bO [w] := ⟨Z2, (by show 1 <= 3; decide), fun y hy => by rw [mem_singleton.mp hy]; exact nw⟩
    have ew : w = dotted [w] := (cL w).symm
    by_cases hin : inV (V.str w) ((as.map dotted).map V.str) = true
    ·refine ⟨_, rfl, _, rfl, F, _, rfl, .inl (SqL.of hF7), rfl, hfl _, _, rfl, aV (by rw [hin]; rfl) ?_⟩
     refine ⟨_, _, _, _, as, rfl, sm.trans s27, hF7, g, Z1, fun _ z => ?_⟩
     rw [z] at hin
     exact absurd (show false = true from hin) Z0
    ·have hin2 : inV (V.str w) ((as.map dotted).map V.str) = false := by simpa using hin
     refine ⟨_, rfl, _, rfl, F, _, rfl, .inl (SqL.of hF7), rfl, hfl _, _, rfl, bR (by rw [hin2]; rfl) ?_⟩
     refine ⟨_, rfl, .inl ⟨rfl, _, SqL.of hF7⟩, _, rfl, F, _, _, rfl, rfl, hF7, lt_of_lt_of_le (show ((as.map dotted).map V.str).length < 1000 by omega) iM, ?_⟩
     refine ⟨_, _, _, _, as ++ [[w]], rfl, (sm.trans s27).over hF, ak.trans (by rw [map_append, map_append]; show some (HO.lst (_ ++ [V.str w])) = some (HO.lst (_ ++ [V.str (dotted [w])])); rw [<- ew]), g.snoc Z1 ga (fun hm => hin (by rw [ew]; exact uR (mem_map.mpr ⟨_, hm, rfl⟩))) (.inl rfl), by rw [length_append]; show as.length + 1 <= _; omega, fun _ => by simp⟩
   ·obtain ⟨p, hp, rfl, hp2⟩ := (hz0 z hz).resolve_left hz1
    have gp := g.ok p hp
    have nwl := nw.hi
    have h36 := gp.len
    refine ⟨_, rfl, rfl, _, rfl, nA (decide_eq_false fun y => hz1 (V.str.inj y)) ?_⟩
    refine ⟨_, rfl, _, _, rfl, rfl, abS h36 iJ, _, rfl, _, _, rfl, rfl, abS (alS h36 iJ) nwl, ?_⟩
    have ew : dotted p ++ "." ++ w = dotted (p ++ [w]) := iD gp.lo
    have ga : bO (p ++ [w]) := ⟨Z2, by rw [length_append]; show p.length + 1 <= 3; omega, fun y hy => by
     rcases mem_append.mp hy with hy | hy
     ·exact gp.nm y hy
     ·rw [mem_singleton.mp hy]; exact nw⟩
    by_cases hin : inV (V.str (dotted p ++ "." ++ w)) ((as.map dotted).map V.str) = true
    ·refine ⟨_, rfl, _, rfl, F, _, rfl, .inl (SqL.of hF7), rfl, hfl _, _, rfl, aV (by rw [hin]; rfl) ?_⟩
     refine ⟨_, _, _, _, as, rfl, sm.trans s27, hF7, g, Z1, fun _ z => ?_⟩
     rw [z] at hp
     cases hp
    ·have hin2 : inV (V.str (dotted p ++ "." ++ w)) ((as.map dotted).map V.str) = false := by simpa using hin
     refine ⟨_, rfl, _, rfl, F, _, rfl, .inl (SqL.of hF7), rfl, hfl _, _, rfl, bR (by rw [hin2]; rfl) ?_⟩
     refine ⟨_, rfl, .inl ⟨rfl, _, SqL.of hF7⟩, _, rfl, F, _, _, rfl, rfl, hF7, lt_of_lt_of_le (show ((as.map dotted).map V.str).length < 1000 by omega) iM, ?_⟩
     refine ⟨_, _, _, _, as ++ [p ++ [w]], rfl, (sm.trans s27).over hF, ak.trans (by rw [map_append, map_append]; show some (HO.lst (_ ++ [V.str (dotted p ++ "." ++ w)])) = some (HO.lst (_ ++ [V.str (dotted (p ++ [w]))])); rw [<- ew]), g.snoc Z1 ga (fun hm => hin (by rw [ew]; exact uR (mem_map.mpr ⟨_, hm, rfl⟩))) (.inr (by rw [List.dropLast_concat]; exact hp)), by rw [length_append]; show as.length + 1 <= _; omega, fun _ => by simp⟩
  ·rintro σ H2 ⟨v4, v5, v6, v7, as, rfl, sm, hF2, g, hal, hane⟩
   have hne := hane Z1
   refine ⟨_, rfl, c, 30, 3, rfl, Z0, Z0, Z0, fun H3 s3 => ⟨rfl, _, rfl, d7 (fun _ => ?_) (fun _ => ?_)⟩⟩
   ·refine ⟨_, rfl, .inl ⟨rfl, _, SqL.of (s3 _ _ hF2)⟩, F, _, rfl, rfl, s3 _ _ hF2, ?_⟩
    exact ⟨_, rfl, q F _ as.reverse hF ((sm.trans s3).over hF) (by simpa using hne) g.rev (ak.trans (by rw [List.map_reverse, List.map_reverse]))⟩
   ·exact ⟨_, rfl, q F _ as hF (sm.trans s3) hne g (s3 _ _ hF2)⟩
theorem sy (T : Tx K mg C) (F : Fun K "_law_prefixes" "_law_prefixes" fU f fd) : aL P w K mg base CX0 1 f fd mY tM := by
 refine F.oq uq fun _ _ _ _ H _ Q E hr h => ?_
 ·obtain ⟨ys, rfl, g, q⟩ := h
  refine ⟨_, QSs.h (aq (aW (i := 1) uq.nd rfl (Or.inr rfl) (cI plainAttrs_str slot_str_split type_str_split lJ (pv 0) (aj aC ao)))
   (aA (aO (bF (N := ["_law_k", "_law_names_here"]) [none, some 1] rfl Z5 (gF Z3 T.range (aj (bw bz Z3 T.len boot_len (aj (pv 1) ao)) ao)) (fun cl C fp s H => (aJ (i := 0) (by decide +kernel : (["_law_k", "_law_names_here"] : List Str).Nodup) rfl (Or.inl rfl))) (fun cl C fp s H => bL) (fun cl C fp s H => (mj (K := K) rfl plainAttrs_str slot_str_join type_str_join (uB rfl) aC (aj (eU (uh (K := K) rfl) (pv 1) jB (eV (aN cN (pv 0) au))) ao))))))), ?_⟩
  have h36 := g.len
  have h3 := g.hi
  refine ⟨_, rfl, rfl, _, _, rfl, rfl, Z4, le_trans (show (dotted ys).length + 2 <= 1000 by omega) f9, fun p hp => ?_⟩
  rw [bK ys g.lo g.nm]
  refine ⟨_, rfl, p, _, rfl, .inl (SqL.of ak), _, rfl, Z1, by rw [length_map]; omega, ?_⟩
  rw [length_map, Int.toNat_natCast]
  refine uI (fun i => V.str (dotted (ys.take (i + 1)))) (le_trans (show ys.length <= 3 by omega) Z0) (fun i H' Q' hi sm k' => ?_) (fun τ H Q Q' hh h => hh _ _ h) (fun H' sm p2 hp2 => ?_)
  ·refine ⟨rfl, rfl, _, rfl, _, rfl, _, _, rfl, rfl, _, rfl, p, _, rfl, SqL.of (sm _ _ ak), fun p3 hp3 => ?_⟩
   have e : (0 + (i : Int) + 1) = ((i + 1 : Nat) : Int) := by omega
   have hs : ((ys.take (i + 1)).map (·.length)).sum <= (ys.take (i + 1)).length * 8 := nq fun y hy => (g.nm y (mem_of_mem_take hy)).hi
   have ht : (ys.take (i + 1)).length <= 3 := le_trans (length_take_le' _ _) h3
   refine ⟨_, p3, ys.take (i + 1), rfl, rfl, .inl (SqL.of ?_), ?_, k' _ (az.new hp3)⟩
   ·rw [ak, e, qu _ Z1]; rfl
   ·rw [show (("." : Str)).length = 1 from by decide +kernel]; omega
  ·have h0 : H p2 = none := (az.new hp).free (sm.free hp2)
   refine q p2 _ h0 (((az.new hp).trans sm).put hp2) ?_
   rw [ak]
   unfold fL
   rw [map_map]
   rfl
theorem yP (T : Tx K mg C) (F : Fun K "_law_asked" "_law_asked" jF f fd) : aL P w K mg base CX0 2 f fd uf Ds := by
 obtain ⟨faa, daa, Aaa⟩ := T.aaa
 have Gaa : aL P w K mg base CX0 1 faa daa jo mL := jy Aaa.F
 refine F.oq yG fun _ _ _ _ H _ Q E hr h => ?_
 ·obtain ⟨c, la, lw, as, ws, rfl, hla, hne, g, hlw, hw8, hwn, q⟩ := h
  have hr1 : aY 1 _ := hr
  refine ⟨_, QSs.h (aq (aW (i := 3) yG.nd rfl (Or.inl rfl) (bc bI (pv 1) (aX Aaa Gaa hr1 (aj (pv 0) (aj au (aj (bw bz Z3 T.len boot_len (aj (pv 1) ao)) ao))))))
   (aq (aW (i := 4) yG.nd rfl (Or.inl rfl) (bc bI (pv 2) (aX Aaa Gaa hr1 (aj (pv 0) (aj au (aj au ao))))))
   (aq (bA (aH rZ (aX Aaa Gaa hr1 (aj (pv 0) (aj au (aj au ao)))) au (aQ _)) (aA (aO (pv 3))) aP)
   (aq (bA (aH CV (cI plainAttrs_str slot_str_count type_str_count vd (pv 3) (aj aC ao)) au (aQ _)) (aA (aO (aN aM (aN aM (pv 3) aC) (pv 4)))) aP)
   (aA (aO (pv 4))))))), ?_⟩
  have hne2 : as.map dotted ≠ [] := by simpa using hne
  have hzl : 0 < ((as.map dotted).length : Int) := by have := length_pos_iff.mpr hne2; omega
  obtain ⟨z, hz, eat⟩ := cu (c := c) (k := 2) hne2
  obtain ⟨a, ha, rfl⟩ := mem_map.mp hz
  have ga := g.ok a ha
  refine ⟨_, rfl, _, rfl, _, rfl, la, _, rfl, .inl (SqL.of hla), c, 2, (as.map dotted).length, (show [V.int c, V.int 2, V.int ((as.map dotted).map V.str).length] = [V.int c, V.int 2, V.int (as.map dotted).length] by rw [length_map (f := V.str)]), Z0, Z0, hzl, fun H1 s1 => ⟨la, _, _, _, rfl, rfl, SqL.of (s1 _ _ hla), eat, ?_⟩⟩
  have hw0 : ws ≠ [] := fun z => by rw [z] at hw8; cases hw8
  obtain ⟨w, hw, eaw⟩ := cu (c := c) (k := 3) hw0
  rw [hw8] at eaw
  have nw := hwn w hw
  refine ⟨_, rfl, _, rfl, c, 3, 8, rfl, Z0, Z0, Z0, fun H2 s2 => ⟨lw, _, _, _, rfl, rfl, SqL.of ((s1.trans s2) _ _ hlw), eaw, ?_⟩⟩
  refine ⟨_, rfl, c, 4, 5, rfl, Z0, Z0, Z0, fun H3 s3 => ⟨_, _, rfl, rfl, _, rfl, d7 (fun _ => ?_) (fun _ => ?_)⟩⟩
  ·exact ⟨_, rfl, q a ga H3 (s1.trans (s2.trans s3))⟩
  have s03 := s1.trans (s2.trans s3)
  refine ⟨_, rfl, rfl, _, _, rfl, rfl, _, _, rfl, rfl, _, rfl, d7 (fun h2 => ?_) (fun _ => ?_)⟩
  ·rw [Ht ga] at h2
   have h36 := ga.len
   refine ⟨_, rfl, _, _, rfl, rfl, abS h36 iJ, _, rfl, _, _, rfl, rfl, abS (alS h36 iJ) nw.hi, ?_⟩
   have q2 := q (a ++ [w]) (Eh ga Z1 nw) H3 s03
   rw [<- iD ga.lo] at q2
   exact q2
  ·have q2 := q [w] (Am nw) H3 s03
   rw [cL] at q2
   exact ⟨_, rfl, q2⟩
theorem ql (T : Tx K mg C) (F : Fun K "_law_drawn" "_law_drawn" jN f fd) : aL P w K mg base CX0 3 f fd qG xj := by
 obtain ⟨faa, daa, Aaa⟩ := T.aaa
 have Gaa : aL P w K mg base CX0 1 faa daa jo mL := jy Aaa.F
 obtain ⟨fbb, dbb, Abb⟩ := T.abb
 have Gbb : aL P w K mg base CX0 2 fbb dbb uf Ds := yP T Abb.F
 refine F.oq m5 fun _ _ _ _ H _ Q E hr h => ?_
 ·obtain ⟨c, lk, la, lw, ks, as, ws, rfl, hlk, hla, hne, g, hlw, hw8, hwn, q⟩ := h
  have hr1 : aY 1 _ := hr.mono Z0
  have hr2 : aY 2 _ := hr
  refine ⟨_, QSs.h (aq (JN (i := 4) m5.nd rfl (Or.inl rfl) (QB bI (Jx (cz aC (cz aC (cz aC (cz aC (cz aC (cz aC (cz aC (cz aC Iv))))))))) (aX Aaa Gaa hr1 (aj (pv 0) (aj au (aj au ao))))))
   (aq (gM (N := ["_law_name", "_law_known"]) [none, some 1] (i := 5) m5.nd rfl (Or.inl rfl) rfl Z5 (aZ (pv 3)) (fun cl C fp s H => (aJ (i := 0) (by decide +kernel : (["_law_name", "_law_known"] : List Str).Nodup) rfl (Or.inl rfl))) (fun cl C fp s H => (lA (aH (FN (K := K) rfl) (pv 0) (pv 1) Z3))) (fun cl C fp s H => (pv 0)))
   (aq (bA (aH (Nt (K := K) rfl hr.units) (pv 5) (bM ao) (aQ _)) (aA (aO (bN (aj aC (aj aC (aj aC (aj aC ao))))))) aP)
   (aq (aW (i := 6) m5.nd rfl (Or.inl rfl) (bc bI (pv 5) (aX Aaa Gaa hr1 (aj (pv 0) (aj au (aj (bw bz Z3 T.len boot_len (aj (pv 5) ao)) ao))))))
   (aq (bA (aH cJ (pv 4) aC (aQ _)) (aA (aW (i := 6) m5.nd rfl (Or.inl rfl) aC)) aP)
   (aq (gM (N := ["_law_one"]) [none] (i := 7) m5.nd rfl (Or.inl rfl) rfl Z5 (aZ (pv 2)) (fun cl C fp s H => (aJ (i := 0) (by decide +kernel : (["_law_one"] : List Str).Nodup) rfl (Or.inl rfl))) (fun cl C fp s H => (lA (aH wX aC (pv 0) Z3))) (fun cl C fp s H => (pv 0)))
   (aq (bA (PW.pt (iH (aH cJ (pv 4) aC (aQ _)) (iH (aH (Ni (K := K) rfl hr.units) (pv 7) (bM ao) (aQ _)) (gH (aH cJ (aX Aaa Gaa hr1 (aj (pv 0) (aj au (aj au ao)))) au (aQ _)))))) (aq (aW (i := 8) m5.nd rfl (Or.inl rfl) (bc bI (pv 7) (aX Aaa Gaa hr1 (aj (pv 0) (aj au (aj (bw bz Z3 T.len boot_len (aj (pv 7) ao)) ao))))))
   (aA (aO (bN (aj (pv 4) (aj (pv 6) (aj (bc bU (cI plainAttrs_str PySem.F.slot_str_rpartition PySem.F.type_str_rpartition Af (pv 8) (aj aC ao)) au) (aj (bc bI (cI plainAttrs_str slot_str_split type_str_split lJ (pv 8) (aj aC ao)) (wU rm au)) ao)))))))) aP)
   (aA (aO (bN (aj (pv 4) (aj (pv 6) (aj (aX Abb Gbb hr2 (aj (pv 0) (aj (pv 2) (aj (pv 3) ao)))) (aj (bc bI (pv 3) (aX Aaa Gaa hr1 (aj (pv 0) (aj au (aj au ao))))) ao)))))))))))))), ?_⟩
  have hfl : ∀ zs : List Str, (zs.map V.str).all dM = true := cG
  have hw0 : ws ≠ [] := fun z => by rw [z] at hw8; cases hw8
  refine ⟨by show 8 <= sizeLine; decide, fun b hb => ?_⟩
  obtain ⟨so, hso, eso⟩ := Hr (gR c 1 (m := 8) Z0) (jK c 1 (m := 8) Z0)
  refine ⟨_, rfl, c, 1, 8, rfl, Z0, Z0, Z0, fun H1 s1 => ⟨b, K5, _, _, rfl, rfl, SqL.of (s1 _ _ ak), eso, ?_⟩⟩
  have s01 : az H H1 := (az.new hb).trans s1
  clear s1 eso
  refine ⟨_, rfl, lw, rfl, ⟨_, SqL.of (s01 _ _ hlw)⟩, dI (xs := ws.map V.str) (fun v => !inV v (ks.map V.str)) (le_trans (show (ws.map V.str).length <= 8 by rw [length_map]; omega) Z0) (SqL.of (s01 _ _ hlw)) (fun x H' Q' hx sm k => ?_) (fun x H' Q' hx sm k => ?_) (fun H2 s2 fr hfr => ?_)⟩
  ·obtain ⟨s, _, rfl⟩ := mem_map.mp hx
   exact ⟨_, rfl, _, rfl, lk, _, rfl, .inl (SqL.of ((s01.trans sm) _ _ hlk)), rfl, hfl _, _, rfl, k H' (az.refl _)⟩
  ·exact ⟨_, rfl, k H' (az.refl _)⟩
  have s03 : az H (upd H2 fr (.lst ((ws.map V.str).filter fun v => !inV v (ks.map V.str)))) := (s01.trans s2).put hfr
  have hf3 : (upd H2 fr (.lst ((ws.map V.str).filter fun v => !inV v (ks.map V.str)))) fr = some (.lst ((ws.filter fun w => !inV (.str w) (ks.map V.str)).map V.str)) := ak.trans (by rw [fM])
  generalize upd H2 fr (.lst ((ws.map V.str).filter fun v => !inV v (ks.map V.str))) = H3 at s03 hf3
  have hfree : ∀ z ∈ ws.filter (fun w => !inV (.str w) (ks.map V.str)), z ∈ ws /\ z ∉ ks := fun z hz => by
   obtain ⟨h1, h2⟩ := mem_filter.mp hz
   refine ⟨h1, fun hk => ?_⟩
   rw [uR (mem_map.mpr ⟨z, hk, rfl⟩)] at h2
   cases h2
  generalize ws.filter (fun w => !inV (.str w) (ks.map V.str)) = fs at hf3 hfree
  refine ⟨_, rfl, by show 0 <= sizeLine; decide, fun e he => ⟨fr, e, fs.map V.str, rfl, rfl, SqL.of ((az.new he) _ _ hf3), SqL.of ak, _, rfl, ?_⟩⟩
  have s04 : az H (upd H3 e (.lst [])) := s03.put he
  have hf4 : (upd H3 e (.lst [])) fr = some (.lst (fs.map V.str)) := (az.new he) _ _ hf3
  generalize upd H3 e (.lst []) = H4 at s04 hf4
  by_cases hfe : fs = []
  ·subst hfe
   refine bR rfl ?_
   exact ⟨by show 4 <= sizeLine; decide, fun p hp => q p _ 5 "" "" "" (s04.free hp) (s04.put hp) ak ⟨Z0, (fun z => absurd z Z0), (fun _ => rfl), .inl ⟨rfl, rfl⟩⟩ (fun z => absurd z Z0)⟩
  refine aV (by cases fs with | nil => exact absurd rfl hfe | cons x y => rfl) ?_
  have hfl0 : 0 < (fs.length : Int) := by have := length_pos_iff.mpr hfe; omega
  obtain ⟨n0, hn0, ean⟩ := cu (c := c) (k := 5) hfe
  obtain ⟨hn0w, hn0k⟩ := hfree n0 hn0
  refine ⟨_, rfl, _, rfl, _, rfl, fr, _, rfl, .inl (SqL.of hf4), c, 5, fs.length, (show [V.int c, V.int 5, V.int (fs.map V.str).length] = [V.int c, V.int 5, V.int fs.length] by rw [length_map]), Z0, Z0, hfl0, fun H5 s5 => ⟨fr, _, _, _, rfl, rfl, SqL.of (s5 _ _ hf4), ean, ?_⟩⟩
  have s05 : az H H5 := s04.trans s5
  obtain ⟨nm, hnm⟩ : ∃ nm : Str, nm = if so = 5 then ("" : Str) else n0 := ⟨_, rfl⟩
  have hn1 : so < 5 -> cQ nm := fun z => by rw [hnm, if_neg Z1]; exact hwn n0 hn0w
  have hn2 : so = 5 -> nm = "" := fun z => by rw [hnm, if_pos z]
  have hn3 : so < 5 -> nm ∈ ws /\ nm ∉ ks := fun z => by rw [hnm, if_neg Z1]; exact ⟨hn0w, hn0k⟩
  have hlen : ((as.map dotted).map V.str).length <= 12 := by rw [length_map, length_map]; exact g.hi
  by_cases h5 : so = 5
  ·subst h5
   refine ⟨_, rfl, rfl, _, rfl, bR (sT 5) ?_⟩
   obtain rfl : nm = "" := hn2 rfl
   refine ⟨_, rfl, la, rfl, ⟨_, SqL.of (s05 _ _ hla)⟩, dI (xs := (as.map dotted).map V.str) rn (le_trans hlen Z0) (SqL.of (s05 _ _ hla)) (fun x H' Q' hx sm k => ?_) (fun x H' Q' hx sm k => ?_) (fun H6 s6 bn hbn => ?_)⟩
   ·obtain ⟨z, _, rfl⟩ := mem_map.mp hx
    exact ⟨_, rfl, _, _, rfl, rfl, _, rfl, k H' (az.refl _)⟩
   ·exact ⟨_, rfl, k H' (az.refl _)⟩
   have s07 : az H (upd H6 bn (.lst (((as.map dotted).map V.str).filter rn))) := (s05.trans s6).put hbn
   have hb7 : (upd H6 bn (.lst (((as.map dotted).map V.str).filter rn))) bn = some (.lst (((as.map dotted).filter fun z => rn (.str z)).map V.str)) := ak.trans (by rw [fM])
   generalize upd H6 bn (.lst (((as.map dotted).map V.str).filter rn)) = H7 at s07 hb7
   refine ⟨_, rfl, rfl, _, rfl, aV (sF 5 4) (iR ?_)⟩
   obtain ⟨w, hw, eaw⟩ := cu (c := c) (k := 6) hw0
   rw [hw8] at eaw
   refine ⟨_, rfl, _, rfl, _, rfl, _, rfl, _, rfl, c, la, lw, as, ws, rfl, s07 _ _ hla, hne, g, s07 _ _ hlw, hw8, hwn, fun ys gy Ha sa => ⟨_, rfl, _, rfl, c, 6, 8, rfl, Z0, Z0, Z0, fun Hb sb2 => ⟨lw, _, _, _, rfl, rfl, SqL.of ((s07.trans (sa.trans sb2)) _ _ hlw), eaw, by show 4 <= sizeLine; decide, fun t ht => ?_⟩⟩⟩
   exact q t _ _ _ (dotted ys) w ((s07.trans (sa.trans sb2)).free ht) ((s07.trans (sa.trans sb2)).put ht) ak ⟨hso, hn1, hn2, .inr ⟨ys, gy, rfl, hwn w hw⟩⟩ hn3
  ·refine ⟨_, rfl, rfl, _, rfl, aV (sF so 5 (by unfold sJ; rw [decide_eq_false h5]; rfl) hso) ?_⟩
   obtain rfl : nm = n0 := by rw [hnm, if_neg h5]
   refine ⟨_, rfl, la, rfl, ⟨_, SqL.of (s05 _ _ hla)⟩, dI (xs := (as.map dotted).map V.str) rn (le_trans hlen Z0) (SqL.of (s05 _ _ hla)) (fun x H' Q' hx sm k => ?_) (fun x H' Q' hx sm k => ?_) (fun H6 s6 bn hbn => ?_)⟩
   ·obtain ⟨z, _, rfl⟩ := mem_map.mp hx
    exact ⟨_, rfl, _, _, rfl, rfl, _, rfl, k H' (az.refl _)⟩
   ·exact ⟨_, rfl, k H' (az.refl _)⟩
   have s07 : az H (upd H6 bn (.lst (((as.map dotted).map V.str).filter rn))) := (s05.trans s6).put hbn
   have hb7 : (upd H6 bn (.lst (((as.map dotted).map V.str).filter rn))) bn = some (.lst (((as.map dotted).filter fun z => rn (.str z)).map V.str)) := ak.trans (by rw [fM])
   generalize upd H6 bn (.lst (((as.map dotted).map V.str).filter rn)) = H7 at s07 hb7
   by_cases h4 : so = 4
   ·subst h4
    refine ⟨_, rfl, rfl, _, rfl, bR (sT 4) ?_⟩
    have hbt : ∀ z ∈ (as.map dotted).filter (fun z => rn (.str z)), ∃ xs b, xs ++ [b] ∈ as /\ z = dotted (xs ++ [b]) /\ xs ≠ [] := fun z hz => BL g hz
    generalize (as.map dotted).filter (fun z => rn (.str z)) = bs at hb7 hbt
    refine ⟨_, rfl, by show 0 <= sizeLine; decide, fun e2 he2 => ⟨bn, e2, bs.map V.str, rfl, rfl, SqL.of ((az.new he2) _ _ hb7), SqL.of ak, _, rfl, ?_⟩⟩
    have s08 : az H (upd H7 e2 (.lst [])) := s07.put he2
    have hb8 : (upd H7 e2 (.lst [])) bn = some (.lst (bs.map V.str)) := (az.new he2) _ _ hb7
    generalize upd H7 e2 (.lst []) = H8 at s08 hb8
    by_cases hbe : bs = []
    ·subst hbe
     refine aV rfl (iR ?_)
     obtain ⟨w, hw, eaw⟩ := cu (c := c) (k := 6) hw0
     rw [hw8] at eaw
     refine ⟨_, rfl, _, rfl, _, rfl, _, rfl, _, rfl, c, la, lw, as, ws, rfl, s08 _ _ hla, hne, g, s08 _ _ hlw, hw8, hwn, fun ys gy Ha sa => ⟨_, rfl, _, rfl, c, 6, 8, rfl, Z0, Z0, Z0, fun Hb sb2 => ⟨lw, _, _, _, rfl, rfl, SqL.of ((s08.trans (sa.trans sb2)) _ _ hlw), eaw, by show 4 <= sizeLine; decide, fun t ht => ?_⟩⟩⟩
     exact q t _ _ _ (dotted ys) w ((s08.trans (sa.trans sb2)).free ht) ((s08.trans (sa.trans sb2)).put ht) ak ⟨hso, hn1, hn2, .inr ⟨ys, gy, rfl, hwn w hw⟩⟩ hn3
    refine bR (by cases bs with | nil => exact absurd rfl hbe | cons x y => rfl) ?_
    refine ⟨_, rfl, c, 7, 2, rfl, Z0, Z0, Z0, fun H9 s9 => ⟨rfl, _, rfl, d7 (fun _ => ?_) (fun _ => ?_)⟩⟩
    ·have s09 := s08.trans s9
     have hbl0 : 0 < (bs.length : Int) := by have := length_pos_iff.mpr hbe; omega
     obtain ⟨z, hz, eab⟩ := cu (c := c) (k := 8) hbe
     obtain ⟨xs, b2, hxb, rfl, hxs⟩ := hbt z hz
     have gx := g.ok _ hxb
     have h36 := gx.len
     have nb : cQ b2 := gx.nm b2 Z2
     have gp : bO xs := ⟨hxs, by have := gx.hi; rw [length_append] at this; exact le_trans (Nat.le_add_right _ _) this, fun y hy => gx.nm y (mem_append_left _ hy)⟩
     refine ⟨_, rfl, _, rfl, _, rfl, bn, _, rfl, .inl (SqL.of (s9 _ _ hb8)), c, 8, bs.length, (show [V.int c, V.int 8, V.int (bs.map V.str).length] = [V.int c, V.int 8, V.int bs.length] by rw [length_map]), Z0, Z0, hbl0, fun Ha sa => ⟨bn, _, _, _, rfl, rfl, SqL.of ((s9.trans sa) _ _ hb8), eab, ?_⟩⟩
     have s0a := s09.trans sa
     refine ⟨_, rfl, _, rfl, _, rfl, rfl, _, _, rfl, rfl, Z4, le_trans h36 Z0, fun p1 hp1 => ⟨p1, _, _, _, rfl, rfl, SqT.of ak, aF (j := 0) rfl, ?_⟩⟩
     rw [uN xs b2 hxs nb]
     have s0b : az H (upd Ha p1 (.tup [V.str (dotted xs), V.str ".", V.str b2])) := s0a.put hp1
     generalize upd Ha p1 (.tup [V.str (dotted xs), V.str ".", V.str b2]) = Hb at s0b
     refine ⟨_, rfl, rfl, _, _, rfl, rfl, Z4, le_trans (show (dotted (xs ++ [b2])).length + 2 <= 1000 by omega) f9, fun p2 hp2 => ?_⟩
     rw [bK _ gx.lo gx.nm]
     refine ⟨_, rfl, p2, _, _, _, rfl, rfl, SqL.of ak, Jv, by show 4 <= sizeLine; decide, fun t ht => ?_⟩
     exact q t _ 4 _ (dotted xs) b2 ((s0b.put hp2).free ht) ((s0b.put hp2).put ht) ak ⟨Z0, hn1, hn2, .inr ⟨xs, gp, rfl, nb⟩⟩ hn3
    ·have s09 := s08.trans s9
     obtain ⟨w, hw, eaw⟩ := cu (c := c) (k := 6) hw0
     rw [hw8] at eaw
     refine ⟨_, rfl, _, rfl, _, rfl, _, rfl, _, rfl, c, la, lw, as, ws, rfl, s09 _ _ hla, hne, g, s09 _ _ hlw, hw8, hwn, fun ys gy Ha sa => ⟨_, rfl, _, rfl, c, 6, 8, rfl, Z0, Z0, Z0, fun Hb sb2 => ⟨lw, _, _, _, rfl, rfl, SqL.of ((s09.trans (sa.trans sb2)) _ _ hlw), eaw, by show 4 <= sizeLine; decide, fun t ht => ?_⟩⟩⟩
     exact q t _ _ _ (dotted ys) w ((s09.trans (sa.trans sb2)).free ht) ((s09.trans (sa.trans sb2)).put ht) ak ⟨hso, hn1, hn2, .inr ⟨ys, gy, rfl, hwn w hw⟩⟩ hn3
   refine ⟨_, rfl, rfl, _, rfl, aV (sF so 4 (by unfold sJ; rw [decide_eq_false h4]; rfl) hso) (iR ?_)⟩
   obtain ⟨w, hw, eaw⟩ := cu (c := c) (k := 6) hw0
   rw [hw8] at eaw
   refine ⟨_, rfl, _, rfl, _, rfl, _, rfl, _, rfl, c, la, lw, as, ws, rfl, s07 _ _ hla, hne, g, s07 _ _ hlw, hw8, hwn, fun ys gy Ha sa => ⟨_, rfl, _, rfl, c, 6, 8, rfl, Z0, Z0, Z0, fun Hb sb2 => ⟨lw, _, _, _, rfl, rfl, SqL.of ((s07.trans (sa.trans sb2)) _ _ hlw), eaw, by show 4 <= sizeLine; decide, fun t ht => ?_⟩⟩⟩
   exact q t _ _ _ (dotted ys) w ((s07.trans (sa.trans sb2)).free ht) ((s07.trans (sa.trans sb2)).put ht) ak ⟨hso, hn1, hn2, .inr ⟨ys, gy, rfl, hwn w hw⟩⟩ hn3
theorem zA (T : Tx K mg C) (F : Fun K "_law_rows" "_law_rows" nD f fd) : aL P w K mg base CX0 4 f fd yK (GC K) := by
 obtain ⟨fab, dab, Aab⟩ := T.aab
 have Gab : aL P w K mg base CX0 1 fab dab rF (tR K) := xF Aab.F T.len
 obtain ⟨faa, daa, Aaa⟩ := T.aaa
 have Gaa : aL P w K mg base CX0 1 faa daa jo mL := jy Aaa.F
 obtain ⟨fak, dak, Aak⟩ := T.aak
 have Gak : aL P w K mg base CX0 3 fak dak qG xj := ql T Aak.F
 refine F.oq n8 fun _ _ _ _ H _ Q E hr h => ?_
 ·obtain ⟨S, la, lw, ns, as, ws, rfl, hS, hla, hne, g, hlw, hw8, hwn, q⟩ := h
  have hr1 : aY 1 _ := hr.mono Z0
  have hr3 : aY 3 _ := hr
  refine ⟨_, QSs.h (aq (aW (i := 3) n8.nd rfl (Or.inl rfl) Im)
   (aq (gm PassesOwn.never rfl (aZ (pv 1)) (aJ (i := 4) n8.nd rfl (Or.inl rfl))
   (aA (QS.mk (J3 (aY.u1 hr) (pv 3) (pv 4) (bM ao) rfl))))
   (aq (gm PassesOwn.never rfl (wR Z3 T.range (aj au (aj (bw (Em rfl) Z3 T.min PyProof.Rows.boot_min (aj (bw bz Z3 T.len boot_len (aj (pv 0) ao)) (aj au ao))) ao))) (aJ (i := 5) n8.nd rfl (Or.inl rfl))
   (aq (aW (i := 6) n8.nd rfl (Or.inl rfl) (aX Aab Gab hr1 (aj (pv 0) (aj (pv 5) ao))))
   (aq (aW (i := 7) n8.nd rfl (Or.inr rfl) (bc bI (pv 1) (aX Aaa Gaa hr1 (aj (pv 6) (aj au (aj (bw bz Z3 T.len boot_len (aj (pv 1) ao)) ao))))))
   (aq (gM (N := ["_law_row_here"]) [none] (i := 8) n8.nd rfl (Or.inl rfl) rfl Z5 (aZ (oV (aY.u1 hr) (pv 3) (pv 7) (fun _ _ => rfl))) (fun cl C fp s H => (aJ (i := 0) (by decide +kernel : (["_law_row_here"] : List Str).Nodup) rfl (Or.inl rfl))) (fun cl C fp s H => bL) (fun cl C fp s H => (bc (c7 (K := K) rfl) (pv 0) au)))
   (aq (aW (i := 8) n8.nd rfl (Or.inl rfl) (aN qX (pv 8) (bF (N := ["_law_word_here", "_law_addresses_here", "_law_owner"]) [none, some 1, some 7] rfl Z5 (aZ (pv 2)) (fun cl C fp s H => (aJ (i := 0) (by decide +kernel : (["_law_word_here", "_law_addresses_here", "_law_owner"] : List Str).Nodup) rfl (Or.inl rfl))) (fun cl C fp s H => (lA (aH (yp (K := K) rfl) (aN aM (aN aM (pv 2) aC) (pv 0)) (pv 1) Z3))) (fun cl C fp s H => (pv 0)))))
   (aA (bA (aH CV (bw bz Z3 T.len boot_len (aj (oV (aY.u1 hr) (pv 3) (pv 7) (fun _ _ => rfl)) ao)) au (aQ _)) (aA (bT (cI plainAttrs_list PySem.F.slot_list_append PySem.F.type_list_append cF (oV (aY.u1 hr) (pv 3) (pv 7) (fun _ _ => rfl)) (aj (aX Aak Gak hr3 (aj (pv 6) (aj (pv 8) (aj (pv 1) (aj (pv 2) ao))))) ao)))) aP)))))))
   (aA (aO (pv 3)))))), ?_⟩
  have hfl : ∀ zs : List Str, (zs.map V.str).all dM = true := cG
  have h12 := g.hi
  have hml : ((as.map dotted).map V.str).length = as.length := by rw [length_map, length_map]
  refine fun R hR => ?_
  have s1 : az H (upd H R (.dK [])) := az.new hR
  have hR1 : (upd H R (.dK [])) R = some (.dK []) := ak
  generalize upd H R (.dK []) = H1 at s1 hR1
  refine ⟨_, rfl, la, rfl, ⟨_, SqL.of (s1 _ _ hla)⟩, ?_⟩
  refine eQ (xs := (as.map dotted).map V.str) (fun i σ H2 => ∃ v4 v5 v6 v7 v8 L, ∃ rs : Nat -> List Q4, σ = [some (.ref S), some (.ref la), some (.ref lw), some (.ref R), v4, v5, v6, v7, v8] /\ az H H2 /\ DictAt H H2 R as i L rs /\ ∀ j, rs j = [])
   ⟨none, none, none, none, none, (fun _ => 0), (fun _ => []), rfl, s1, ⟨hR, (fun i hi => absurd hi (not_lt_zero _)), ⟨[], hR1, le_refl _, (fun i a hi => absurd hi (not_lt_zero _))⟩, (fun i hi => absurd hi (not_lt_zero _)), (fun i j hi => absurd hi (not_lt_zero _))⟩, fun _ => rfl⟩ ?_ ?_ ?_
  ·rintro i σ H2 _ ⟨v4, v5, v6, v7, v8, L, rs, rfl, sm, _⟩
   exact SqL.of (sm _ _ hla)
  ·rintro i x σ H2 hx ⟨v4, v5, v6, v7, v8, L, rs, rfl, sm, hd, he⟩
   obtain ⟨a, ha, rfl⟩ : ∃ a, as[i]? = some a /\ x = V.str (dotted a) := by
    rw [getElem?_map, getElem?_map] at hx
    cases e : as[i]? with
    | none => rw [e] at hx; cases hx
    | some a => rw [e] at hx; cases hx; exact ⟨a, rfl, rfl⟩
   refine ⟨by show 0 <= sizeLine; decide, fun b hb => ?_⟩
   obtain ⟨kvs, hk, _⟩ := hd.dk
   obtain ⟨hkl, hd2⟩ := hd.more g.nd sm hb ha kvs hk
   have hi12 : i < 12 := by have := (List.getElem?_eq_some_iff.mp ha).1; omega
   have hk2 : (upd H2 b (.lst [])) R = some (.dK kvs) := (az.new hb) _ _ hk
   refine ⟨_, rfl, _, rfl, R, _, rfl, Hy.k (k := .inr (dotted a)) hk2 (lt_of_lt_of_le (show kvs.length < 1000 by omega) iM), ?_⟩
   exact ⟨_, _, _, _, _, _, _, rfl, (sm.put hb).over hR, hd2, fun j => by show (if j = i then [] else rs j) = []; rw [he j]; split <;> rfl⟩
  ·rintro σ H2 ⟨v4, v5, v6, v7, v8, L, rs, rfl, sm, hd, he⟩
   rw [hml] at hd
   have hok : lg as rs := ⟨(fun i _ => by rw [he i]; decide), (fun i _ d hd => by rw [he i] at hd; cases hd), (fun i a _ d hd => by rw [he i] at hd; cases hd)⟩
   clear he
   refine ⟨_, rfl, S, _, rfl, .inl (sm.seq hS), _, _, rfl, _, _, rfl, ⟨Z0, Z0, by split <;> omega, by split <;> omega⟩, ?_⟩
   refine oX (fun k σ H2 => ∃ v4 v5 v6 v7 v8 L, ∃ rs : Nat -> List Q4, σ = [some (.ref S), some (.ref la), some (.ref lw), some (.ref R), v4, v5, v6, v7, v8] /\ az H H2 /\ DictAt H H2 R as as.length L rs /\ lg as rs) ⟨_, _, _, _, _, L, rs, rfl, sm, hd, hok⟩ ?_ ?_
   ·clear hd hok sm
    rintro k σ H3 hk ⟨v4, v5, v6, v7, v8, L, rs, rfl, sm, hd, hok⟩
    refine ⟨_, rfl, _, rfl, S, ns, 6 + (k : Int), rfl, sm.seq hS, Z1, fun H4 s4 => ?_⟩
    generalize vo ns (6 + (k : Int)) = c
    have sm4 := sm.trans s4
    have hd4 := hd.same s4
    clear sm hd s4
    have hzl : 0 < ((as.map dotted).length : Int) := by have := length_pos_iff.mpr hne; rw [length_map]; omega
    obtain ⟨i, a, ha, eat⟩ := HR (c := c) (k := 0) hne
    refine ⟨_, rfl, _, rfl, _, rfl, la, _, rfl, .inl (SqL.of (sm4 _ _ hla)), c, 0, (as.map dotted).length, (show [V.int c, V.int 0, V.int ((as.map dotted).map V.str).length] = [V.int c, V.int 0, V.int (as.map dotted).length] by rw [length_map (f := V.str)]), Z0, Z0, hzl, fun H5 s5 => ⟨la, _, _, _, rfl, rfl, SqL.of ((sm4.trans s5) _ _ hla), eat, ?_⟩⟩
    have sm5 := sm4.trans s5
    have hd5 := hd4.same s5
    clear sm4 hd4 s5 eat hzl
    have hi := (List.getElem?_eq_some_iff.mp ha).1
    have ga := g.ok a (mem_of_getElem? ha)
    have h36 := ga.len
    obtain ⟨xs, hx5, hxl, hxt⟩ := hd5.ts i hi
    have hr12 := hok.hi i hi
    refine ⟨_, rfl, _, rfl, R, _, rfl, hd5.get hi ha (az.refl _), L i, rfl, ⟨_, SqL.of hx5⟩, bB (fun m => V.str (((rs i).map Q4.nm).getD m "")) (le_trans (show xs.length <= 12 by omega) Z0) (SqL.of hx5) (fun m x H' Q' hx sm k => ?_) (fun H6 s6 kn hkn => ?_)⟩
    ·have hm : m < (rs i).length := by rw [<- hxl]; exact (List.getElem?_eq_some_iff.mp hx).1
     obtain ⟨p, e2, tp⟩ := hxt m (rs i)[m] (getElem?_eq_getElem hm)
     obtain rfl : x = .ref p := by rw [hx] at e2; exact Option.some.inj e2
     have k2 : Q' (V.str (((rs i).map Q4.nm).getD m "")) H' := k H' (az.refl _)
     have eg : ((rs i).map Q4.nm).getD m "" = (rs i)[m].nm := by simp [List.getD, hm]
     rw [eg] at k2
     exact ⟨_, rfl, p, _, _, _, rfl, rfl, SqT.of (sm _ _ tp), aF (j := 1) rfl, k2⟩
    rw [Gh hxl]
    have s7 : az H5 (upd H6 kn (.lst (((rs i).map Q4.nm).map V.str))) := s6.put hkn
    have hk7 : (upd H6 kn (.lst (((rs i).map Q4.nm).map V.str))) kn = some (.lst (((rs i).map Q4.nm).map V.str)) := ak
    generalize upd H6 kn (.lst (((rs i).map Q4.nm).map V.str)) = H7 at s7 hk7
    have s07 := sm5.trans s7
    refine ⟨_, rfl, _, rfl, lw, rfl, ⟨_, SqL.of (s07 _ _ hlw)⟩, dI (xs := ws.map V.str) (fun v => inV (zj (dotted a) v) ((as.map dotted).map V.str)) (le_trans (show (ws.map V.str).length <= 8 by rw [length_map]; omega) Z0) (SqL.of (s07 _ _ hlw)) (fun x H' Q' hx sm k => ?_) (fun x H' Q' hx sm k => ?_) (fun H8 s8 fl hfl2 => ?_)⟩
    ·obtain ⟨w, hw, rfl⟩ := mem_map.mp hx
     exact ⟨_, rfl, _, _, rfl, rfl, abS h36 iJ, _, rfl, _, _, rfl, rfl, abS (alS h36 iJ) (hwn w hw).hi, _, rfl, la, _, rfl, .inl (SqL.of ((s07.trans sm) _ _ hla)), rfl, hfl _, _, rfl, k H' (az.refl _)⟩
    ·exact ⟨_, rfl, k H' (az.refl _)⟩
    have hk8 := s8 _ _ hk7
    have s9 : az H5 (upd H8 fl (.lst ((ws.map V.str).filter fun v => inV (zj (dotted a) v) ((as.map dotted).map V.str)))) := (s7.trans s8).put hfl2
    have hk9 : (upd H8 fl (.lst ((ws.map V.str).filter fun v => inV (zj (dotted a) v) ((as.map dotted).map V.str)))) kn = some (.lst (((rs i).map Q4.nm).map V.str)) := (az.new hfl2) _ _ hk8
    have hf9 : (upd H8 fl (.lst ((ws.map V.str).filter fun v => inV (zj (dotted a) v) ((as.map dotted).map V.str)))) fl = some (.lst ((ws.filter fun w => inV (zj (dotted a) (.str w)) ((as.map dotted).map V.str)).map V.str)) := ak.trans (by rw [fM])
    generalize upd H8 fl (.lst ((ws.map V.str).filter fun v => inV (zj (dotted a) v) ((as.map dotted).map V.str))) = H9 at s9 hk9 hf9
    have hfm : ∀ w ∈ ws, dotted a ++ "." ++ w ∈ as.map dotted -> w ∈ ws.filter fun w => inV (zj (dotted a) (.str w)) ((as.map dotted).map V.str) := fun w hw hm => mem_filter.mpr ⟨hw, uR (mem_map.mpr ⟨_, hm, rfl⟩)⟩
    have hf8 : (ws.filter fun w => inV (zj (dotted a) (.str w)) ((as.map dotted).map V.str)).length <= 8 := by rw [<- hw8]; exact length_filter_le _ _
    generalize (ws.filter fun w => inV (zj (dotted a) (.str w)) ((as.map dotted).map V.str)) = fs at hf9 hfm hf8
    refine ⟨kn, fl, _, _, rfl, rfl, hk9, hf9, le_trans (show (((rs i).map Q4.nm).map V.str).length + (fs.map V.str).length <= 20 by simp only [length_map]; omega) Z0, fun e he => ?_⟩
    have s10 : az H5 (upd H9 e (.lst (((rs i).map Q4.nm).map V.str ++ fs.map V.str))) := s9.put he
    have he10 : (upd H9 e (.lst (((rs i).map Q4.nm).map V.str ++ fs.map V.str))) e = some (.lst (((rs i).map Q4.nm ++ fs).map V.str)) := ak.trans (by rw [map_append])
    generalize upd H9 e (.lst (((rs i).map Q4.nm).map V.str ++ fs.map V.str)) = H10 at s10 he10
    clear hk9 hf9 s9 hk8 hfl2 s8 hk7 s07 s7
    have s010 := sm5.trans s10
    have hx10 := s10 _ _ hx5
    refine ⟨_, rfl, _, rfl, R, _, rfl, hd5.get hi ha s10, L i, _, rfl, .inl (SqL.of hx10), _, _, rfl, rfl, _, rfl, d7 (fun hlt => ?_) (fun _ => ?_)⟩
    ·have hlt : xs.length < 12 := by omega
     refine ⟨_, rfl, _, rfl, R, _, rfl, hd5.get hi ha s10, .inl ⟨rfl, _, SqL.of hx10⟩, _, rfl, _, rfl, _, rfl, _, rfl, c, e, la, lw, (rs i).map Q4.nm ++ fs, as, ws, rfl, he10, s010 _ _ hla, hne, g, s010 _ _ hlw, hw8, hwn, fun p H11 so nm ad wd hp s11 tp g4 hnk => ?_⟩
     have hx11 := s11 _ _ hx10
     refine ⟨L i, xs, _, rfl, rfl, hx11, lt_of_lt_of_le (show xs.length < 1000 by omega) iM, ?_⟩
     have hd12 := (hd5.same (s10.trans s11)).row hi (d := ⟨so, nm, ad, wd⟩) tp xs hx11
     refine ⟨_, _, _, _, _, L, _, rfl, (s010.trans s11).over (hd5.l0 i hi), hd12, hok.row ha Z1 g4 fun h5 hm => ?_⟩
     obtain ⟨h6, h7⟩ := hnk h5
     exact h7 (mem_append_right _ (hfm nm h6 hm))
    ·exact ⟨_, _, _, _, _, L, rs, rfl, s010, hd5.same s10, hok⟩
   ·rintro σ H3 ⟨v4, v5, v6, v7, v8, L, rs, rfl, sm, hd, hok⟩
    exact ⟨_, rfl, q R H3 L rs sm hd hok⟩
theorem pJ (T : Tx K mg C) (F : Fun K "_law_row" "_law_row" o6 f fd) : aL P w K mg base CX0 3 f fd wB (xx C) := by
 obtain ⟨fbe, dbe, Abe, M_Deed⟩ := T.i_Deed
 have Gbe : aL P w K mg base CX0 1 fbe dbe iW (yj C 1) := pH T Abe.F
 obtain ⟨fbj, dbj, Abj, M_Draw⟩ := T.i_Draw
 have Gbj : aL P w K mg base CX0 1 fbj dbj iZ (xG C 2) := p7 T Abj.F
 obtain ⟨fbm, dbm, Abm, M_Late⟩ := T.i_Late
 have Gbm : aL P w K mg base CX0 1 fbm dbm iQ (xG C 3) := pZ T Abm.F
 obtain ⟨fbp, dbp, Abp, M_Let⟩ := T.i_Let
 have Gbp : aL P w K mg base CX0 1 fbp dbp jM (yj C 0) := qM T Abp.F
 obtain ⟨fbq, dbq, Abq, M_Need⟩ := T.i_Need
 have Gbq : aL P w K mg base CX0 1 fbq dbq iV (FW C) := pU T Abq.F
 obtain ⟨fbl, dbl, Abl, M_Take⟩ := T.i_Take
 have Gbl : aL P w K mg base CX0 1 fbl dbl iT (G6 C) := pY T Abl.F
 refine F.oq vf fun _ _ _ _ H _ Q E hr h => ?_
 ·obtain ⟨p, d, rfl, hp, g4, q⟩ := h
  have hr2 : aY 2 _ := hr
  refine ⟨_, QSs.h (aq (yW (pv 0) (kh (K := K) (n := 4) rfl rfl (bG (aJ (i := 1) vf.nd rfl (Or.inl rfl)) (bG (aJ (i := 2) vf.nd rfl (Or.inl rfl)) (bG (aJ (i := 3) vf.nd rfl (Or.inl rfl)) (bG (aJ (i := 4) vf.nd rfl (Or.inl rfl)) jO))))))
   (aq (aW (i := 5) vf.nd rfl (Or.inl rfl) (bM (aj (bN (aj au (aj aC (aj au ao)))) ao)))
   (aq (bA (aH oE (pv 3) aC (aQ _)) (aA (aW (i := 5) vf.nd rfl (Or.inl rfl) (bM (aj (bN (aj au (aj aC (aj (dX vX Z3 T.t_tuple PyProof.Rows.boot_tuple (aj (cI plainAttrs_str slot_str_split type_str_split lJ (pv 3) (aj aC ao)) ao)) ao)))) (aj (bN (aj (wU rm au) (aj aC (aj (bN (aj (pv 4) ao)) ao)))) ao))))) aP)
   (aq (bA (aH cJ (pv 1) aC (aQ _)) (aA (aO (qT M_Draw Abj.b Gbj hr2 T.c_Draw (aj (pv 3) (aj (pv 2) ao))))) aP)
   (aq (bA (aH cJ (pv 1) aC (aQ _)) (aA (aO (qT M_Late Abm.b Gbm hr2 T.c_Late (aj (pv 3) (aj (pv 2) ao))))) aP)
   (aq (bA (aH cJ (pv 1) aC (aQ _)) (aA (aO (qT M_Take Abl.b Gbl hr2 T.c_Take (aj (pv 4) (aj (pv 3) (aj (pv 2) ao)))))) aP)
   (aq (bA (aH cJ (pv 1) aC (aQ _)) (aA (aO (qT M_Let Abp.b Gbp hr2 T.c_Let (aj (pv 2) (aj (pv 5) ao))))) aP)
   (aq (bA (aH cJ (pv 1) aC (aQ _)) (aA (aO (qT M_Deed Abe.b Gbe hr2 T.c_Deed (aj (pv 2) (aj (pv 5) ao))))) aP)
   (aA (aO (qT M_Need Abq.b Gbq hr2 T.c_Need (aj (pv 5) ao)))))))))))), ?_⟩
  obtain ⟨so, nn, aa, ww⟩ := d
  have hp : H p = some (.tup [.str (jH so), .str nn, .str aa, .str ww]) := hp
  have h5 := g4.h5
  refine ⟨_, rfl, p, _, rfl, SqT.of hp, rfl, _, _, rfl, _, _, rfl, _, _, rfl, _, _, rfl, rfl, ?_⟩
  refine ⟨by show 3 <= sizeLine; decide, fun t1 ht1 => ⟨by show 1 <= sizeLine; decide, fun l1 hl1 => ?_⟩⟩
  have s1 : az H (upd (upd H t1 (.tup [V.int 1, V.str "number", V.int 1])) l1 (.lst [V.ref t1])) := (az.new ht1).put hl1
  have hts1 : nR (upd (upd H t1 (.tup [V.int 1, V.str "number", V.int 1])) l1 (.lst [V.ref t1])) l1 [⟨1, .num 1⟩] := ⟨_, ak, rfl, fun i x e => by
   match i, e with
   | 0, e => cases e; exact ⟨_, rfl, t1, _, rfl, (az.new hl1) _ _ ak, rfl⟩
   | n + 1, e => simp at e⟩
  have hl1f : H l1 = none := (az.new ht1).free hl1
  generalize upd (upd H t1 (.tup [V.int 1, V.str "number", V.int 1])) l1 (.lst [V.ref t1]) = H1 at s1 hts1
  by_cases ha : aa = ""
  ·have hso : so = 5 \/ so = 0 := by
    rcases g4.ha with ⟨_, z⟩ | ⟨ys, gy, e, _⟩
    ·exact z
    ·exact absurd (e.symm.trans ha) (oZ gy)
   rw [P0 ha] at q
   refine ⟨_, rfl, rfl, _, rfl, jh (decide_eq_true (congrArg V.str ha)) ?_⟩
   rcases hso with rfl | rfl
   ·refine ⟨_, rfl, rfl, _, rfl, aV (sF 5 2) ⟨_, rfl, rfl, _, rfl, aV (sF 5 3) ⟨_, rfl, rfl, _, rfl, aV (sF 5 4) ⟨_, rfl, rfl, _, rfl, aV (sF 5 0) ⟨_, rfl, rfl, _, rfl, aV (sF 5 1) ?_⟩⟩⟩⟩⟩
    exact ⟨_, rfl, fun x dx hx hdx hne => ⟨x, dx, ⟨5, nn, dotted ["a"], "a", [⟨1, .num 1⟩]⟩, l1, rfl, rfl, ak, hts1.same (bu hx hdx), (by show 1 <= 10; decide), fun l H' hl sb ra => ⟨rfl, q x l H' (s1.trans fun b o e => sb b o (bu hx hdx b o e) (aD e hx)) (s1.free hx) ((s1.trans (bu hx hdx)).free hl) ra⟩⟩⟩
   ·exact ⟨_, rfl, rfl, _, rfl, aV (sF 0 2) ⟨_, rfl, rfl, _, rfl, aV (sF 0 3) ⟨_, rfl, rfl, _, rfl, aV (sF 0 4) ⟨_, rfl, rfl, _, rfl, bR (sT 0) ⟨_, rfl, _, rfl, fun x dx hx hdx hne => ⟨x, dx, ⟨0, nn, dotted ["a"], "a", [⟨1, .num 1⟩]⟩, l1, rfl, rfl, ak, hts1.same (bu hx hdx), (by show 1 <= 10; decide), fun l H' hl sb ra => ⟨rfl, q x l H' (s1.trans fun b o e => sb b o (bu hx hdx b o e) (aD e hx)) (s1.free hx) ((s1.trans (bu hx hdx)).free hl) ra⟩⟩⟩⟩⟩⟩⟩
  ·obtain ⟨ys, gy, rfl, hww⟩ := g4.ha.resolve_left fun z => ha z.1
   refine ⟨_, rfl, rfl, _, rfl, nA (decide_eq_false fun z => ha (V.str.inj z)) ?_⟩
   have h36 := gy.len
   refine ⟨_, rfl, rfl, _, _, rfl, rfl, Z4, le_trans (show (dotted ys).length + 2 <= 1000 by omega) f9, fun sp hsp => ⟨sp, _, rfl, .inl ⟨SqL.of ak, fun tp htp => ?_⟩⟩⟩
   have es : Txt.split (dotted ys) ("." : Str) = ys := bK ys gy.lo gy.nm
   have s2 : az H1 (upd (upd H1 sp (.lst ((Txt.split (dotted ys) ".").map V.str))) tp (.tup ((Txt.split (dotted ys) ".").map V.str))) := (az.new hsp).put htp
   have htp2 : (upd (upd H1 sp (.lst ((Txt.split (dotted ys) ".").map V.str))) tp (.tup ((Txt.split (dotted ys) ".").map V.str))) tp = some (.tup (ys.map V.str)) := ak.trans (by rw [es])
   generalize upd (upd H1 sp (.lst ((Txt.split (dotted ys) ".").map V.str))) tp (.tup ((Txt.split (dotted ys) ".").map V.str)) = H2 at s2 htp2
   refine ⟨by show 3 <= sizeLine; decide, fun t2 ht2 => ⟨_, rfl, _, rfl, by show 1 <= sizeLine; decide, fun t3 ht3 => ⟨by show 3 <= sizeLine; decide, fun t4 ht4 => ⟨by show 2 <= sizeLine; decide, fun l2 hl2 => ?_⟩⟩⟩⟩
   have s3 : az H2 (upd (upd (upd (upd H2 t2 (.tup [V.int 1, V.str "path", V.ref tp])) t3 (.tup [V.str ww])) t4 (.tup [V.int (-1), V.str "path", V.ref t3])) l2 (.lst [V.ref t2, V.ref t4])) := (((az.new ht2).put ht3).put ht4).put hl2
   have hts3 : nR (upd (upd (upd (upd H2 t2 (.tup [V.int 1, V.str "path", V.ref tp])) t3 (.tup [V.str ww])) t4 (.tup [V.int (-1), V.str "path", V.ref t3])) l2 (.lst [V.ref t2, V.ref t4])) l2 [⟨1, .nms false ys⟩, ⟨-1, .nms false [ww]⟩] := ⟨_, ak, rfl, fun i x e => by
    match i, e with
    | 0, e => cases e; exact ⟨_, rfl, t2, _, rfl, (az.new hl2) _ _ ((az.new ht4) _ _ ((az.new ht3) _ _ ak)), tp, rfl, s3 _ _ htp2⟩
    | 1, e => cases e; exact ⟨_, rfl, t4, _, rfl, (az.new hl2) _ _ ak, t3, rfl, (az.new hl2) _ _ ((az.new ht4) _ _ ak)⟩
    | n + 2, e => simp at e⟩
   have hl2f : H l2 = none := ((s1.trans s2).trans (((az.new ht2).put ht3).put ht4)).free hl2
   have s03 := s1.trans (s2.trans s3)
   generalize upd (upd (upd (upd H2 t2 (.tup [V.int 1, V.str "path", V.ref tp])) t3 (.tup [V.str ww])) t4 (.tup [V.int (-1), V.str "path", V.ref t3])) l2 (.lst [V.ref t2, V.ref t4]) = H3 at s03 hts3
   rw [Mr (d := ⟨so, nn, dotted ys, ww⟩) gy rfl] at q
   have l10 : ([⟨1, .nms false ys⟩, ⟨-1, .nms false [ww]⟩] : List Trm).length <= 10 := by show 2 <= 10; decide
   have q3 : ∀ a l H', az H3 H' -> H3 a = none -> H3 l = none -> d8 C H' a l ⟨so, nn, dotted ys, ww, [⟨1, .nms false ys⟩, ⟨-1, .nms false [ww]⟩]⟩ -> Q (.ref a) H' := fun a l H' s ha hl ra => q a l H' (s03.trans s) (s03.free ha) (s03.free hl) ra
   clear q
   rcases six h5 with rfl | rfl | rfl | rfl | rfl | rfl
   ·exact ⟨_, rfl, rfl, _, rfl, aV (sF 0 2) ⟨_, rfl, rfl, _, rfl, aV (sF 0 3) ⟨_, rfl, rfl, _, rfl, aV (sF 0 4) ⟨_, rfl, rfl, _, rfl, bR (sT 0) ⟨_, rfl, _, rfl, fun x dx hx hdx hne => ⟨x, dx, ⟨0, nn, dotted ys, ww, _⟩, l2, rfl, rfl, ak, hts3.same (bu hx hdx), l10, fun l H' hl sb ra => ⟨rfl, q3 x l H' (fun b o e => sb b o (bu hx hdx b o e) (aD e hx)) hx ((bu hx hdx).free hl) ra⟩⟩⟩⟩⟩⟩⟩
   ·exact ⟨_, rfl, rfl, _, rfl, aV (sF 1 2) ⟨_, rfl, rfl, _, rfl, aV (sF 1 3) ⟨_, rfl, rfl, _, rfl, aV (sF 1 4) ⟨_, rfl, rfl, _, rfl, aV (sF 1 0) ⟨_, rfl, rfl, _, rfl, bR (sT 1) ⟨_, rfl, _, rfl, fun x dx hx hdx hne => ⟨x, dx, ⟨1, nn, dotted ys, ww, _⟩, l2, rfl, rfl, ak, hts3.same (bu hx hdx), l10, fun l H' hl sb ra => ⟨rfl, q3 x l H' (fun b o e => sb b o (bu hx hdx b o e) (aD e hx)) hx ((bu hx hdx).free hl) ra⟩⟩⟩⟩⟩⟩⟩⟩
   ·exact ⟨_, rfl, rfl, _, rfl, bR (sT 2) ⟨_, rfl, _, rfl, fun x dx hx hdx hne => ⟨x, dx, ⟨2, nn, dotted ys, ww, _⟩, rfl, rfl, ak, fun H' sb ra => ⟨rfl, q3 x x H' (fun b o e => sb b o (bu hx hdx b o e) (aD e hx)) hx hx (ra x)⟩⟩⟩⟩
   ·exact ⟨_, rfl, rfl, _, rfl, aV (sF 3 2) ⟨_, rfl, rfl, _, rfl, bR (sT 3) ⟨_, rfl, _, rfl, fun x dx hx hdx hne => ⟨x, dx, ⟨3, nn, dotted ys, ww, _⟩, rfl, rfl, ak, fun H' sb ra => ⟨rfl, q3 x x H' (fun b o e => sb b o (bu hx hdx b o e) (aD e hx)) hx hx (ra x)⟩⟩⟩⟩⟩
   ·exact ⟨_, rfl, rfl, _, rfl, aV (sF 4 2) ⟨_, rfl, rfl, _, rfl, aV (sF 4 3) ⟨_, rfl, rfl, _, rfl, bR (sT 4) ⟨_, rfl, _, rfl, _, rfl, fun x dx hx hdx hne => ⟨x, dx, ⟨4, nn, dotted ys, ww, _⟩, rfl, rfl, ak, fun H' sb ra => ⟨rfl, q3 x x H' (fun b o e => sb b o (bu hx hdx b o e) (aD e hx)) hx hx (ra x)⟩⟩⟩⟩⟩⟩
   ·exact ⟨_, rfl, rfl, _, rfl, aV (sF 5 2) ⟨_, rfl, rfl, _, rfl, aV (sF 5 3) ⟨_, rfl, rfl, _, rfl, aV (sF 5 4) ⟨_, rfl, rfl, _, rfl, aV (sF 5 0) ⟨_, rfl, rfl, _, rfl, aV (sF 5 1) ⟨_, rfl, fun x dx hx hdx hne => ⟨x, dx, ⟨5, nn, dotted ys, ww, _⟩, l2, rfl, rfl, ak, hts3.same (bu hx hdx), l10, fun l H' hl sb ra => ⟨rfl, q3 x l H' (fun b o e => sb b o (bu hx hdx b o e) (aD e hx)) hx ((bu hx hdx).free hl) ra⟩⟩⟩⟩⟩⟩⟩⟩
theorem xW (T : Tx K mg C) (F : Fun K "_law_parts" "_law_parts" ju f fd) : aL P w K mg base CX0 4 f fd tQ (Bm C) := by
 obtain ⟨fae, dae, Aae⟩ := T.aae
 have Gae : aL P w K mg base CX0 3 fae dae wB (xx C) := pJ T Aae.F
 obtain ⟨fai, dai, Aai, M_Part⟩ := T.i_Part
 have Gai : aL P w K mg base CX0 1 fai dai dW (yd C) := eZ T Aai.F
 refine F.oq Kh fun _ _ _ _ H _ Q E hr h => ?_
 ·obtain ⟨H0, R, la, as, L, rs, rfl, hla, g, hd, hok, q⟩ := h
  have hr2 : aY 2 _ := hr.mono Z0
  have hr3 : aY 3 _ := hr
  refine ⟨_, QSs.h (aA (aO (bF (N := ["_law_address", "_law_rows_here"]) [none, some 1] rfl Z5 (aZ (pv 0)) (fun cl C fp s H => (aJ (i := 0) (by decide +kernel : (["_law_address", "_law_rows_here"] : List Str).Nodup) rfl (Or.inl rfl))) (fun cl C fp s H => bL) (fun cl C fp s H => (qT M_Part Aai.b Gai hr2 T.c_Part (aj (pv 0) (aj (bF (N := ["_law_row_here"]) [none] rfl Z5 (vy (K := K) rfl (oV (aY.u1 hr) (pv 1) (pv 0) (fun _ _ => rfl))) (fun cl C fp s H => (aJ (i := 0) (by decide +kernel : (["_law_row_here"] : List Str).Nodup) rfl (Or.inl rfl))) (fun cl C fp s H => bL) (fun cl C fp s H => (aX Aae Gae hr3 (aj (pv 0) ao)))) ao))))))), ?_⟩
  have h12 := g.hi
  have hml : ((as.map dotted).map V.str).length = as.length := by rw [length_map, length_map]
  refine ⟨_, rfl, la, rfl, ⟨_, SqL.of hla⟩, ?_⟩
  refine jk (xs := (as.map dotted).map V.str) (fun τ => ∃ u, τ = [u, some (.ref R)]) (fun i v H' => ∃ p : aU, as[i]? = some p.ad /\ p.rs = (rs i).map iz /\ ∃ a lr, v = V.ref a /\ cY C H' a (dotted p.ad) lr p.rs)
   (fun i v H' H'' ⟨p, e, ok, a, lr, ev, pa⟩ s => ⟨p, e, ok, a, lr, ev, pa.same s⟩) (le_trans (show _ <= 12 by omega) Z0) (SqL.of hla) ⟨_, rfl⟩ (fun i x τ H1 Q' hx s1 hS k => ?_) (fun ys H1 s1 hyl hys d hd => ?_)
  ·obtain ⟨u, rfl⟩ := hS
   obtain ⟨a, ha, rfl⟩ : ∃ a, as[i]? = some a /\ x = V.str (dotted a) := by
    rw [getElem?_map, getElem?_map] at hx
    cases e : as[i]? with
    | none => rw [e] at hx; cases hx
    | some a => rw [e] at hx; cases hx; exact ⟨a, rfl, rfl⟩
   have hi := (List.getElem?_eq_some_iff.mp ha).1
   have ga := g.ok a (mem_of_getElem? ha)
   have hd1 := hd.same s1
   refine ⟨_, rfl, _, rfl, _, rfl, R, _, rfl, hd1.get hi ha (az.refl _), L i, rfl, ?_⟩
   obtain ⟨xs, hx1, _⟩ := id (hd1.ts i hi)
   refine ⟨⟨_, SqL.of hx1⟩, ?_⟩
   have gs : ∀ d ∈ rs i, G5 d := fun d hd => G4.g5 (hok.g4 i hi d hd)
   refine rM (hd1.ts i hi) (hok.hi i hi) gs ⟨_, rfl⟩ (fun p d u H2 Q2 tp g5 k2 => ⟨_, rfl, p, d, rfl, tp, g5, fun a l H3 s3 _ _ ra => k2 a l H3 s3 ra⟩) fun zs H2 s2 hra dz hdz => ?_
   have hr := hra dz hdz
   have s3 : az H1 (upd H2 dz (.lst zs)) := s2.put hdz
   generalize upd H2 dz (.lst zs) = H3 at hr s3
   exact fun x dx hx hdx hne => ⟨x, dx, dotted a, dz, (rs i).map iz, rfl, ak, hr.same (bu hx hdx), Jf (hok.hi i hi) gs, fun l H4 hl sb pa => ⟨rfl, k _ _ H4 ⟨_, rfl⟩ (s3.trans fun b o e => sb b o (bu hx hdx b o e) (aD e hx)) ⟨⟨a, (rs i).map iz⟩, ha, rfl, x, l, rfl, pa⟩⟩⟩
  ·obtain ⟨ps, hpl, hps⟩ := fJ (fun i v (p : aU) => as[i]? = some p.ad /\ p.rs = (rs i).map iz /\ ∃ a lr, v = V.ref a /\ cY C H1 a (dotted p.ad) lr p.rs) ys 0 (fun i v e => by rw [Nat.zero_add]; exact hys i v e)
   have hpa : ∀ (i : Nat) p, ps[i]? = some p -> as[i]? = some p.ad /\ p.rs = (rs i).map iz /\ ∃ a lr, ys[i]? = some (V.ref a) /\ cY C H1 a (dotted p.ad) lr p.rs := fun i p e => by
    have hi : i < ys.length := by rw [<- hpl]; exact (List.getElem?_eq_some_iff.mp e).1
    obtain ⟨p2, e2, e3, ok, a, lr, e4, pa⟩ := hps i _ (getElem?_eq_getElem hi)
    rw [e] at e2
    cases e2
    rw [Nat.zero_add] at e3 ok
    exact ⟨e3, ok, a, lr, by rw [getElem?_eq_getElem hi, e4], pa⟩
   exact q d H1 ys ps s1 hd ⟨hpl.symm, fun i p e => (hpa i p e).2.2⟩ Z1 fun i p e => ⟨(hpa i p e).1, (hpa i p e).2.1⟩
theorem Av (T : Tx K mg C) (F : Fun K "_law_made" "_law_made" mX f fd) : aL P w K mg base CX0 5 f fd xq (zH K) := by
 obtain ⟨fa7, da7, Aa7⟩ := T.aa7
 have Ga7 : aL P w K mg base CX0 2 fa7 da7 tX Dn := xN T Aa7.F
 obtain ⟨fax, dax, Aax⟩ := T.aax
 have Gax : aL P w K mg base CX0 2 fax dax jT Gd := rE T Aax.F
 obtain ⟨fab, dab, Aab⟩ := T.aab
 have Gab : aL P w K mg base CX0 1 fab dab rF (tR K) := xF Aab.F T.len
 obtain ⟨faa, daa, Aaa⟩ := T.aaa
 have Gaa : aL P w K mg base CX0 1 faa daa jo mL := jy Aaa.F
 obtain ⟨fa3, da3, Aa3⟩ := T.aa3
 have Ga3 : aL P w K mg base CX0 4 fa3 da3 yK (GC K) := zA T Aa3.F
 refine F.oq uG fun _ _ _ _ H _ Q E hr h => ?_
 ·obtain ⟨S, ns, rfl, hS, q⟩ := h
  have hr1 : aY 1 _ := hr.mono Z0
  have hr2 : aY 2 _ := hr.mono Z0
  have hr4 : aY 4 _ := hr
  refine ⟨_, QSs.h (aq (aW (i := 1) uG.nd rfl (Or.inl rfl) (aX Aa7 Ga7 hr2 (aj (aX Aab Gab hr1 (aj (pv 0) (aj au ao))) ao)))
   (aq (aW (i := 2) uG.nd rfl (Or.inl rfl) (aN cN au (aX Aaa Gaa hr1 (aj (aX Aab Gab hr1 (aj (pv 0) (aj au ao))) (aj au (aj au ao))))))
   (aq (bA (aH cJ (aX Aaa Gaa hr1 (aj (aX Aab Gab hr1 (aj (pv 0) (aj au ao))) (aj au (aj au ao)))) au (aQ _)) (aA (aW (i := 2) uG.nd rfl (Or.inl rfl) au)) aP)
   (aq (aW (i := 3) uG.nd rfl (Or.inl rfl) (aX Aax Gax hr2 (aj (aX Aab Gab hr1 (aj (pv 0) (aj au ao))) (aj (pv 2) (aj (pv 1) ao)))))
   (aA (aO (bN (aj (pv 1) (aj (pv 3) (aj (aX Aa3 Ga3 hr4 (aj (pv 0) (aj (pv 3) (aj (pv 1) ao)))) ao)))))))))), ?_⟩
  refine ⟨_, rfl, S, ns, 2, rfl, hS, Z0, fun H1 s1 => ⟨_, rfl, fun lw H2 ws hlw0 s2 hw8 hwn hlw => ?_⟩⟩
  have s02 := s1.trans s2
  refine ⟨_, rfl, S, ns, 0, rfl, s02.seq hS, Z0, fun H3 s3 => ⟨_, 0, 6, rfl, Z0, Z0, Z0, fun H4 s4 => ⟨_, _, rfl, rfl, ?_⟩⟩⟩
  have k1 := gR (vo ns 0) 0 (m := 6) Z0
  have k2 := jK (vo ns 0) 0 (m := 6) Z0
  generalize pick (vo ns 0) 0 6 = mn at k1 k2
  have s24 := s3.trans s4
  refine ⟨_, rfl, S, ns, 0, rfl, (s02.trans s24).seq hS, Z0, fun H5 s5 => ⟨_, 1, 8, rfl, Z0, Z0, Z0, fun H6 s6 => ⟨rfl, _, rfl, d7 (fun _ => ?_) (fun _ => ?_)⟩⟩⟩
  all_goals
   have s26 := s24.trans (s5.trans s6)
   refine ⟨_, rfl, S, ns, 1, rfl, (s02.trans s26).seq hS, Z0, fun H7 s7 => ⟨_, rfl, _, rfl, _, _, lw, ws, rfl, Z1, Z1, (s26.trans s7) _ _ hlw, hw8, hwn, fun la H8 as _ s8 hne g hla => ?_⟩⟩
   have s28 := s26.trans (s7.trans s8)
   refine ⟨_, rfl, _, rfl, _, rfl, _, rfl, _, rfl, S, la, lw, ns, as, ws, rfl, (s02.trans s28).seq hS, hla, hne, g, s28 _ _ hlw, hw8, hwn, fun R H9 L rs s9 hd hok => ⟨by show 3 <= sizeLine; decide, fun p hp => ?_⟩⟩
   exact q p lw la R ws as L rs H8 _ ak (((s02.trans s28).trans s9).put hp) ((s9.put hp) _ _ (s28 _ _ hlw)) hw8 hwn ((s9.put hp) _ _ hla) hne g (hd.same (az.new hp)) hok
theorem za (T : Tx K mg C) (F : Fun K "_law_names" "_law_names" jP f fd) : aL P w K mg base CX0 1 f fd tH Ak := by
 refine F.oq Jq fun _ _ _ _ H _ Q E hr h => ?_
 ·obtain ⟨v, e, rfl, ⟨t, b, rfl, ht, hb⟩, h12, q⟩ := h
  refine ⟨_, QSs.h (aA (aO (bF (N := ["_law_row_here"]) [none] rfl Z5 (aZ (bc bU (pv 0) au)) (fun cl C fp s H => (aJ (i := 0) (by decide +kernel : (["_law_row_here"] : List Str).Nodup) rfl (Or.inl rfl))) (fun cl C fp s H => (lA (aH oE (bc (c7 (K := K) rfl) (pv 0) au) aC (aQ _)))) (fun cl C fp s H => (bc (c7 (K := K) rfl) (pv 0) au))))), ?_⟩
  obtain ⟨xs, hx, hxl, hxt⟩ := hb
  have at_ : ∀ {i : Nat} {x : V}, xs[i]? = some x -> ∃ p d, e.ds[i]? = some d /\ x = .ref p /\ TupAt H p d := fun {i x} hx => by
   have hi : i < e.ds.length := by rw [<- hxl]; exact (List.getElem?_eq_some_iff.mp hx).1
   obtain ⟨p, e2, tp⟩ := hxt i _ (getElem?_eq_getElem hi)
   rw [hx] at e2
   exact ⟨p, _, getElem?_eq_getElem hi, Option.some.inj e2, tp⟩
  have en : ∀ {i : Nat} {d : Q4}, e.ds[i]? = some d -> (e.ds.map Q4.nm).getD i "" = d.nm := fun {i d} h => by rw [getD_eq_getElem?_getD, getElem?_map, h]; rfl
  refine ⟨_, rfl, t, _, _, _, rfl, rfl, SqT.of ht, aF (j := 1) rfl, b, rfl, ⟨_, SqL.of hx⟩, nY (fun i => decide ((e.ds.map Q4.nm).getD i "" ≠ "")) (fun i => V.str ((e.ds.map Q4.nm).getD i "")) (le_trans (show xs.length <= 12 by omega) Z0) (SqL.of hx) (fun i x H' Q' hx sm k => ?_) (fun i x H' Q' hx sm k => ?_) (fun H1 s1 c hc => ?_)⟩
  ·obtain ⟨p, d, ed, rfl, tp⟩ := at_ hx
   have k2 := k H' (az.refl _)
   have e1 : decide ((e.ds.map Q4.nm).getD i "" ≠ "") = !decide (V.str d.nm = V.str "") := by
    rw [en ed]
    by_cases u : d.nm = ""
    ·simp [u]
    ·simp [u]
   simp only [e1] at k2
   exact ⟨_, rfl, p, _, _, _, rfl, rfl, SqT.of (sm _ _ tp), aF (j := 1) rfl, rfl, _, rfl, k2⟩
  ·obtain ⟨p, d, ed, rfl, tp⟩ := at_ hx
   have k2 := k H' (az.refl _)
   rw [en ed] at k2
   exact ⟨_, rfl, p, _, _, _, rfl, rfl, SqT.of (sm _ _ tp), aF (j := 1) rfl, k2⟩
  have em := Jm (e.ds.map Q4.nm)
  rw [length_map, <- hxl] at em
  rw [em]
  exact q c _ (s1.free hc) (s1.put hc) ak
theorem Br (T : Tx K mg C) (F : Fun K "_law_due" "_law_due" o5 f fd) : aL P w K mg base CX0 2 f fd Dt IW := by
 obtain ⟨fa6, da6, Aa6⟩ := T.aa6
 have Ga6 : aL P w K mg base CX0 1 fa6 da6 tH Ak := za T Aa6.F
 refine F.oq zJ fun _ _ _ _ H _ Q E hr h => ?_
 ·obtain ⟨l, es, rfl, hs, h200, hg, q⟩ := h
  have hr1 : aY 1 _ := hr
  refine ⟨_, QSs.h (aq (gM (N := ["_law_part"]) [none] (i := 1) zJ.nd rfl (Or.inl rfl) rfl Z5 (aZ (pv 0)) (fun cl C fp s H => (aJ (i := 0) (by decide +kernel : (["_law_part"] : List Str).Nodup) rfl (Or.inl rfl))) (fun cl C fp s H => bL) (fun cl C fp s H => (bc (c7 (K := K) rfl) (pv 0) au)))
   (aq (gm PassesOwn.never rfl (gF Z3 T.range (aj (bw bz Z3 T.len boot_len (aj (pv 0) ao)) ao)) (aJ (i := 2) zJ.nd rfl (Or.inl rfl))
   (aq (aW (i := 3) zJ.nd rfl (Or.inl rfl) (bc bU (bc bI (pv 0) (pv 2)) au))
   (aq (bA (aH rZ (pv 2) au (aQ _)) (aA (aO (bN (aj aC (aj (pv 2) ao))))) aP)
   (aq (bA (PW.pt (iH (aH wX aC (pv 3) Z3) (gH (aH cP (cI plainAttrs_str slot_str_join type_str_join jX aC (aj (eU jU (cI plainAttrs_str slot_str_split type_str_split lJ (pv 3) (aj aC ao)) jB (eV (wU rm au))) ao)) (pv 1) Z3)))) (aA (aO (bN (aj aC (aj (pv 2) ao))))) aP)
   (aA (gm PassesOwn.never rfl (aZ (aX Aa6 Ga6 hr1 (aj (bc bI (pv 0) (pv 2)) ao))) (aJ (i := 4) zJ.nd rfl (Or.inl rfl))
   (aA (bA (aH o7 (aN aM (aN aM (pv 3) aC) (pv 4)) (pv 1) Z3) (aA (aO (bN (aj aC (aj (pv 2) ao))))) aP))))))))
   (aA (aO (bN (aj aC (aj (pv 0) ao))))))), ?_⟩
  obtain ⟨xs, hl, tx⟩ := id hs
  have hxl := tx.1
  have eA := ug es
  have hx12 : xs.length <= sizeLine := le_trans (show xs.length <= 200 by omega) Z0
  refine ⟨_, rfl, l, rfl, ⟨_, SqL.of hl⟩, bB (fun i => ((adE es).map V.str).getD i .non) hx12 (SqL.of hl) (fun i x H' Q' hx sm k => ?_) (fun H1 s1 b hb => ?_)⟩
  ·obtain ⟨e, ed, t, bb, rfl, ht, hbb⟩ := tx.at hx
   have k2 : Q' (((adE es).map V.str).getD i .non) H' := k H' (az.refl _)
   rw [uA ed] at k2
   exact ⟨_, rfl, t, _, _, _, rfl, rfl, SqT.of (sm _ _ ht), aF (j := 0) rfl, k2⟩
  rw [nM hxl]
  have s2 : az H (upd H1 b (.lst ((adE es).map V.str))) := s1.put hb
  have hb2 : (upd H1 b (.lst ((adE es).map V.str))) b = some (.lst ((adE es).map V.str)) := ak
  generalize upd H1 b (.lst ((adE es).map V.str)) = H2 at s2 hb2
  refine ⟨_, rfl, l, _, rfl, .inl (SqL.of (s2 _ _ hl)), _, rfl, Z1, Z1, ?_⟩
  refine oX (fun i σ H' => ∃ v2 v3 v4, σ = [some (.ref l), some (.ref b), v2, v3, v4] /\ az H2 H' /\ ∀ (j : Nat) d, j < i -> (es.map bh)[j]? = some d -> iI (adS (es.map bh)) j d = 0) ⟨none, none, none, rfl, az.refl _, fun j d hj => absurd hj (not_lt_zero _)⟩ ?_ ?_
  ·rintro i σ H3 hi ⟨v2, v3, v4, rfl, sm, hok⟩
   have hi : i < xs.length := by omega
   have ei : xs[i]? = some xs[i] := getElem?_eq_getElem hi
   obtain ⟨e, ed, t, bb, ev, ht, hbb⟩ := tx.at ei
   have ed' : (es.map bh)[i]? = some (bh e) := by rw [getElem?_map, ed]; rfl
   have s03 := s2.trans sm
   have gd := hg e (mem_of_getElem? ed)
   have eat : atI xs (0 + (i : Int)) = some (V.ref t) := by rw [Int.zero_add]; exact aF (by rw [ei, ev])
   refine ⟨_, rfl, _, rfl, l, _, _, _, rfl, rfl, SqL.of (s03 _ _ hl), eat, t, _, _, _, rfl, rfl, SqT.of (s03 _ _ ht), aF (j := 0) rfl, ?_⟩
   have told : ∀ {c : Nat} {H4 : Hp}, az H H4 -> (c = 1 \/ c = 3 \/ c = 4) -> iI (adS (es.map bh)) i (bh e) = c -> ∀ p, H4 p = none -> Q (.ref p) (upd H4 p (.tup [.str (kW (21 + c)), .int (0 + (i : Int))])) := fun {c H4} s4 h1 hd p hp =>
    q (.no (21 + c) (.int i)) p _ ⟨c, i, ⟨hok, .inr ⟨h1, _, ed', hd⟩⟩, (if_neg Z1).symm⟩ (s4.put hp) (ak.trans (by rw [Int.zero_add]))
   by_cases h1 : 12 <= i
   ·exact ⟨_, rfl, _, _, rfl, rfl, _, rfl, bR (decide_eq_true Z1) ⟨_, rfl, by show 2 <= sizeLine; decide, told (c := 1) s03 Z0 (Lz h1)⟩⟩
   refine ⟨_, rfl, _, _, rfl, rfl, _, rfl, aV (decide_eq_false Z1) ?_⟩
   have h36 := gd.ad.len
   have sp := bK e.ad gd.ad.lo gd.ad.nm
   by_cases hdl : e.ad.dropLast = []
   ·refine ⟨_, rfl, _, _, rfl, rfl, _, rfl, aV (Bool.eq_false_iff.mpr fun z => (Dv gd.ad).mp z hdl) (iR ?_)⟩
    have h3 : ¬ ((bh e).ad.dropLast ≠ [] /\ dotted (bh e).ad.dropLast ∉ adS (es.map bh)) := fun z => z.1 hdl
    refine ⟨_, rfl, _, rfl, l, _, _, _, rfl, rfl, SqL.of ((s2.trans sm) _ _ hl), eat, .ref t, e, rfl, ⟨t, bb, rfl, (s2.trans sm) _ _ ht, hbb.same (s2.trans sm)⟩, gd.hi, fun nb H6 _ s6 hn6 => ⟨nb, rfl, ⟨_, SqL.of hn6⟩, ?_⟩⟩
    have s26 := sm.trans s6
    refine eQ (xs := (vP e).map V.str) (fun j σ H' => ∃ v4, σ = [some (.ref l), some (.ref b), some (.int (0 + (i : Int))), some (.str (dotted e.ad)), v4] /\ az H6 H' /\ ∀ n ∈ (vP e).take j, dotted e.ad ++ "." ++ n ∉ adE es) ⟨_, rfl, az.refl _, fun n hn => by cases hn⟩ ?_ ?_ ?_
    ·rintro j σ H' _ ⟨v5, rfl, sj, _⟩
     exact SqL.of (sj _ _ hn6)
    ·rintro j v σ H7 hv ⟨v5, rfl, sj, hj⟩
     obtain ⟨n, en, rfl⟩ : ∃ n, (vP e)[j]? = some n /\ v = V.str n := by
      rw [getElem?_map] at hv
      cases e : (vP e)[j]? with
      | none => rw [e] at hv; cases hv
      | some a => rw [e] at hv; cases hv; exact ⟨a, rfl, rfl⟩
     obtain ⟨r, hr, hn0, rfl⟩ := tZ.mp (mem_of_getElem? en)
     have s27 := s26.trans sj
     refine ⟨_, rfl, _, _, rfl, rfl, abS h36 iJ, _, rfl, _, _, rfl, rfl, abS (alS h36 iJ) (gd.good.rs.ok r hr).nl, _, rfl, b, _, rfl, .inl (SqL.of (s27 _ _ hb2)), rfl, cG _, _, rfl, ?_⟩
     by_cases h4 : dotted e.ad ++ "." ++ r.nm ∈ adE es
     ·exact bR (by rw [eG, decide_eq_true h4]; rfl) ⟨_, rfl, by show 2 <= sizeLine; decide, told (c := 4) (s2.trans s27) Z0 (Kf h1 h3 ⟨r, hr, hn0, eA.symm ▸ h4⟩)⟩
     ·refine aV (by rw [eG, decide_eq_false h4]; rfl) ⟨_, rfl, sj, fun u hu => ?_⟩
      rw [take_succ, en] at hu
      rcases mem_append.mp hu with z | z
      ·exact hj u z
      ·have z : u = r.nm := by simpa using z
       rw [z]; exact h4
    ·rintro σ H7 ⟨v5, rfl, sj, hj⟩
     rw [length_map, take_length] at hj
     refine ⟨_, _, _, rfl, s26.trans sj, fun j e hj' he => ?_⟩
     rcases Nat.lt_or_eq_of_le (Nat.le_of_lt_succ hj') with z | rfl
     ·exact hok j e z he
     ·rw [ed'] at he
      cases he
      exact Ei h1 h3 fun ⟨r, hr, hn, z⟩ => hj r.nm (tZ.mpr ⟨r, hr, hn, rfl⟩) (eA ▸ z)
   ·refine ⟨_, rfl, _, _, rfl, rfl, _, rfl, bR ((Dv gd.ad).mpr hdl) ?_⟩
    refine ⟨rfl, _, rfl, rfl, _, _, rfl, rfl, Z4, le_trans (show (dotted e.ad).length + 2 <= 1000 by omega) f9, fun p hp => ?_⟩
    rw [sp]
    have s25 : az H2 (upd H3 p (.lst (e.ad.map V.str))) := sm.put hp
    have hp5 : (upd H3 p (.lst (e.ad.map V.str))) p = some (.lst (e.ad.map V.str)) := ak
    generalize upd H3 p (.lst (e.ad.map V.str)) = H5 at s25 hp5
    refine ⟨_, rfl, _, rfl, p, _, rfl, SqL.of hp5, fun c2 hc2 => ?_⟩
    have ec2 : fc (e.ad.map V.str) none (some (-1)) = e.ad.dropLast.map V.str := by
     rw [zu _ (fun z => gd.ad.lo (map_eq_nil_iff.mp z)), List.map_dropLast]
    rw [ec2]
    have s26 : az H2 (upd H5 c2 (.lst (e.ad.dropLast.map V.str))) := s25.put hc2
    have hc6 : (upd H5 c2 (.lst (e.ad.dropLast.map V.str))) c2 = some (.lst (e.ad.dropLast.map V.str)) := ak
    generalize upd H5 c2 (.lst (e.ad.dropLast.map V.str)) = H6 at s26 hc6
    refine ⟨_, c2, e.ad.dropLast, rfl, rfl, .inl (SqL.of hc6), Bd gd.ad, _, rfl, b, _, rfl, .inl (SqL.of (s26 _ _ hb2)), rfl, cG _, _, rfl, ?_⟩
    have ej : inV (V.str (Txt.join ("." : Str) e.ad.dropLast)) ((adE es).map V.str) = decide (dotted e.ad.dropLast ∈ adE es) := eG _ _
    by_cases hin : dotted e.ad.dropLast ∈ adE es
    ·have h3 : ¬ ((bh e).ad.dropLast ≠ [] /\ dotted (bh e).ad.dropLast ∉ adS (es.map bh)) := fun z => z.2 (eA.symm ▸ hin)
     refine aV (by rw [ej, decide_eq_true hin]; rfl) ?_
     refine ⟨_, rfl, _, rfl, l, _, _, _, rfl, rfl, SqL.of ((s2.trans s26) _ _ hl), eat, .ref t, e, rfl, ⟨t, bb, rfl, (s2.trans s26) _ _ ht, hbb.same (s2.trans s26)⟩, gd.hi, fun nb H6 _ s6 hn6 => ⟨nb, rfl, ⟨_, SqL.of hn6⟩, ?_⟩⟩
     have s26 := s26.trans s6
     refine eQ (xs := (vP e).map V.str) (fun j σ H' => ∃ v4, σ = [some (.ref l), some (.ref b), some (.int (0 + (i : Int))), some (.str (dotted e.ad)), v4] /\ az H6 H' /\ ∀ n ∈ (vP e).take j, dotted e.ad ++ "." ++ n ∉ adE es) ⟨_, rfl, az.refl _, fun n hn => by cases hn⟩ ?_ ?_ ?_
     ·rintro j σ H' _ ⟨v5, rfl, sj, _⟩
      exact SqL.of (sj _ _ hn6)
     ·rintro j v σ H7 hv ⟨v5, rfl, sj, hj⟩
      obtain ⟨n, en, rfl⟩ : ∃ n, (vP e)[j]? = some n /\ v = V.str n := by
       rw [getElem?_map] at hv
       cases e : (vP e)[j]? with
       | none => rw [e] at hv; cases hv
       | some a => rw [e] at hv; cases hv; exact ⟨a, rfl, rfl⟩
      obtain ⟨r, hr, hn0, rfl⟩ := tZ.mp (mem_of_getElem? en)
      have s27 := s26.trans sj
      refine ⟨_, rfl, _, _, rfl, rfl, abS h36 iJ, _, rfl, _, _, rfl, rfl, abS (alS h36 iJ) (gd.good.rs.ok r hr).nl, _, rfl, b, _, rfl, .inl (SqL.of (s27 _ _ hb2)), rfl, cG _, _, rfl, ?_⟩
      by_cases h4 : dotted e.ad ++ "." ++ r.nm ∈ adE es
      ·exact bR (by rw [eG, decide_eq_true h4]; rfl) ⟨_, rfl, by show 2 <= sizeLine; decide, told (c := 4) (s2.trans s27) Z0 (Kf h1 h3 ⟨r, hr, hn0, eA.symm ▸ h4⟩)⟩
      ·refine aV (by rw [eG, decide_eq_false h4]; rfl) ⟨_, rfl, sj, fun u hu => ?_⟩
       rw [take_succ, en] at hu
       rcases mem_append.mp hu with z | z
       ·exact hj u z
       ·have z : u = r.nm := by simpa using z
        rw [z]; exact h4
     ·rintro σ H7 ⟨v5, rfl, sj, hj⟩
      rw [length_map, take_length] at hj
      refine ⟨_, _, _, rfl, s26.trans sj, fun j e hj' he => ?_⟩
      rcases Nat.lt_or_eq_of_le (Nat.le_of_lt_succ hj') with z | rfl
      ·exact hok j e z he
      ·rw [ed'] at he
       cases he
       exact Ei h1 h3 fun ⟨r, hr, hn, z⟩ => hj r.nm (tZ.mpr ⟨r, hr, hn, rfl⟩) (eA ▸ z)
    ·exact bR (by rw [ej, decide_eq_false hin]; rfl) ⟨_, rfl, by show 2 <= sizeLine; decide, told (c := 3) (s2.trans s26) Z0 (Ms h1 ⟨hdl, fun z => hin (eA ▸ z)⟩)⟩
  ·rintro σ H3 ⟨v2, v3, v4, rfl, sm, hok⟩
   have ei : ((xs.length : Int)).toNat = (es.map bh).length := by rw [length_map]; omega
   rw [ei] at hok
   refine ⟨_, rfl, by show 2 <= sizeLine; decide, fun p hp => ?_⟩
   exact q (.ok _) p _ ⟨0, _, ⟨hok, .inl ⟨rfl, rfl⟩⟩, (if_pos rfl).symm⟩ ((s2.trans sm).put hp) ⟨l, ak, hs.same ((s2.trans sm).put hp)⟩
theorem zx (T : Tx K mg C) (F : Fun K "_law_less" "_law_less" lW f fd) : aL P w K mg base CX0 1 f fd xu Hk := by
 refine F.oq Iw fun _ _ _ _ H _ Q E hr h => ?_
 ·obtain ⟨l, es, z, rfl, hs, h200, hg, q⟩ := h
  refine ⟨_, QSs.h (aq (bA (aH cP (pv 1) (bF (N := ["_law_part"]) [none] rfl Z5 (aZ (pv 0)) (fun cl C fp s H => (aJ (i := 0) (by decide +kernel : (["_law_part"] : List Str).Nodup) rfl (Or.inl rfl))) (fun cl C fp s H => bL) (fun cl C fp s H => (bc (c7 (K := K) rfl) (pv 0) au))) Z3) (aA (aO (bN (aj aC (aj (pv 1) ao))))) aP)
   (aq (gm PassesOwn.never rfl (aZ (pv 0)) (aJ (i := 2) Iw.nd rfl (Or.inl rfl))
   (aA (bA (aH cJ (cI plainAttrs_str slot_str_join type_str_join jX aC (aj (eU jU (cI plainAttrs_str slot_str_split type_str_split lJ (bc bU (pv 2) au) (aj aC ao)) jB (eV (wU rm au))) ao)) (pv 1) (aQ _)) (aA (aO (bN (aj aC (aj (pv 1) ao))))) aP)))
   (aA (aO (bN (aj aC (aj (bF (N := ["_law_part", "_law_address"]) [none, some 1] rfl Z5 (aZ (pv 0)) (fun cl C fp s H => (aJ (i := 0) (by decide +kernel : (["_law_part", "_law_address"] : List Str).Nodup) rfl (Or.inl rfl))) (fun cl C fp s H => (lA (aH oE (bc (c7 (K := K) rfl) (pv 0) au) (pv 1) (aQ _)))) (fun cl C fp s H => (pv 0))) ao))))))), ?_⟩
  obtain ⟨xs, hl, tx⟩ := id hs
  have hxl := tx.1
  have eA := ug es
  have hx12 : xs.length <= sizeLine := le_trans (show xs.length <= 200 by omega) Z0
  refine ⟨_, rfl, _, rfl, l, rfl, ⟨_, SqL.of hl⟩, bB (fun i => ((adE es).map V.str).getD i .non) hx12 (SqL.of hl) (fun i x H' Q' hx sm k => ?_) (fun H1 s1 b hb => ?_)⟩
  ·obtain ⟨e, ed, t, bb, rfl, ht, hbb⟩ := tx.at hx
   have k2 : Q' (((adE es).map V.str).getD i .non) H' := k H' (az.refl _)
   rw [uA ed] at k2
   exact ⟨_, rfl, t, _, _, _, rfl, rfl, SqT.of (sm _ _ ht), aF (j := 0) rfl, k2⟩
  rw [nM hxl]
  have s2 : az H (upd H1 b (.lst ((adE es).map V.str))) := s1.put hb
  have hb2 : (upd H1 b (.lst ((adE es).map V.str))) b = some (.lst ((adE es).map V.str)) := ak
  generalize upd H1 b (.lst ((adE es).map V.str)) = H2 at s2 hb2
  refine ⟨b, _, rfl, .inl (SqL.of hb2), rfl, cG _, _, rfl, ?_⟩
  by_cases hin : z ∈ adE es
  ·refine aV (by rw [eG, decide_eq_true hin]; rfl) ?_
   refine ⟨_, rfl, l, rfl, ⟨_, SqL.of (s2 _ _ hl)⟩, ?_⟩
   refine eQ (xs := xs) (fun i σ H' => ∃ v2, σ = [some (.ref l), some (.str z), v2] /\ az H H' /\ ∀ (j : Nat) e, j < i -> es[j]? = some e -> fu e.ad ≠ z) ⟨_, rfl, s2, fun j d hj => absurd hj (not_lt_zero _)⟩ ?_ ?_ ?_
   ·rintro i σ H' _ ⟨v2, rfl, sm, _⟩
    exact SqL.of (sm _ _ hl)
   ·rintro i x σ H3 hx ⟨v2, rfl, sm, hok⟩
    obtain ⟨e, ed, t, bb, rfl, ht, hbb⟩ := tx.at hx
    have gd := hg e (mem_of_getElem? ed)
    have h36 := gd.ad.len
    have sp := bK e.ad gd.ad.lo gd.ad.nm
    refine ⟨rfl, _, rfl, t, _, _, _, rfl, rfl, SqT.of (sm _ _ ht), aF (j := 0) rfl, rfl, _, _, rfl, rfl, Z4, le_trans (show (dotted e.ad).length + 2 <= 1000 by omega) f9, fun p hp => ?_⟩
    rw [sp]
    have s4 : az H (upd H3 p (.lst (e.ad.map V.str))) := sm.put hp
    have hp4 : (upd H3 p (.lst (e.ad.map V.str))) p = some (.lst (e.ad.map V.str)) := ak
    generalize upd H3 p (.lst (e.ad.map V.str)) = H4 at s4 hp4
    refine ⟨_, rfl, _, rfl, p, _, rfl, SqL.of hp4, fun c2 hc2 => ?_⟩
    have ec2 : fc (e.ad.map V.str) none (some (-1)) = e.ad.dropLast.map V.str := by
     rw [zu _ (fun z => gd.ad.lo (map_eq_nil_iff.mp z)), List.map_dropLast]
    rw [ec2]
    have s5 : az H (upd H4 c2 (.lst (e.ad.dropLast.map V.str))) := s4.put hc2
    have hc5 : (upd H4 c2 (.lst (e.ad.dropLast.map V.str))) c2 = some (.lst (e.ad.dropLast.map V.str)) := ak
    generalize upd H4 c2 (.lst (e.ad.dropLast.map V.str)) = H5 at s5 hc5
    refine ⟨_, c2, e.ad.dropLast, rfl, rfl, .inl (SqL.of hc5), Bd gd.ad, _, rfl, rfl, _, rfl, d7 (fun he => ?_) (fun he => ?_)⟩
    ·have he := V.str.inj he
     rw [Ay] at he
     refine ⟨_, rfl, by show 2 <= sizeLine; decide, fun p hp => ?_⟩
     exact q _ p _ (.inr (.inl ⟨eA.symm ▸ hin, ⟨bh e, mem_map.mpr ⟨e, mem_of_getElem? ed, rfl⟩, he⟩, rfl⟩)) (s5.put hp) ak
    ·refine ⟨_, rfl, s5, fun j e' hj he' => ?_⟩
     rcases Nat.lt_or_eq_of_le (Nat.le_of_lt_succ hj) with u | rfl
     ·exact hok j e' u he'
     ·rw [ed] at he'
      cases he'
      rw [<- Ay]
      exact fun u => he (congrArg V.str u)
   ·rintro σ H3 ⟨v2, rfl, sm, hok⟩
    rw [hxl] at hok
    have hk : ¬ ∃ p ∈ es.map bh, fu p.ad = z := fun ⟨p, hp, e⟩ => by
     obtain ⟨d, hd, rfl⟩ := mem_map.mp hp
     obtain ⟨i, hi, ei⟩ := getElem_of_mem hd
     exact hok i d hi (by rw [getElem?_eq_getElem hi, ei]) e
    have f := yC (xs := xs) (ps := es) (p := fun i => decide (((adE es).getD i "") ≠ z)) (F := fun e => decide (dotted e.ad ≠ z)) hxl (fun i d e => by
     show decide ((adE es).getD i "" ≠ z) = _
     rw [getD_eq_getElem?_getD, getElem?_map, e]
     rfl) es.length (le_refl _)
    rw [take_length, <- hxl] at f
    refine ⟨_, rfl, l, rfl, ⟨_, SqL.of (sm _ _ hl)⟩, nY (fun i => decide (((adE es).getD i "") ≠ z)) (fun i => xs.getD i .non) hx12 (SqL.of (sm _ _ hl)) (fun i x H' Q' hx s4 k => ?_) (fun i x H' Q' hx s4 k => ?_) (fun H4 s4 d hd => ?_)⟩
    ·obtain ⟨e, ed, t, bb, rfl, ht, hbb⟩ := tx.at hx
     have k2 := k H' (az.refl _)
     have e1 : decide (((adE es).getD i "") ≠ z) = !decide (V.str (dotted e.ad) = V.str z) := by
      rw [getD_eq_getElem?_getD, getElem?_map, ed]
      show decide (¬ dotted e.ad = z) = _
      by_cases u : dotted e.ad = z
      ·simp [u]
      ·simp [u]
     simp only [e1] at k2
     exact ⟨_, rfl, t, _, _, _, rfl, rfl, SqT.of ((sm.trans s4) _ _ ht), aF (j := 0) rfl, _, rfl, rfl, _, rfl, k2⟩
    ·have k2 := k H' (az.refl _)
     have e1 : xs.getD i .non = x := by rw [getD_eq_getElem?_getD, hx]; rfl
     rw [e1] at k2
     exact ⟨_, rfl, k2⟩
    obtain ⟨f1, f2⟩ := f
    generalize ((List.range xs.length).filter fun i => decide (((adE es).getD i "") ≠ z)).map (fun i => xs.getD i .non) = ys at f1 f2
    have s5 : az H (upd H4 d (.lst ys)) := (sm.trans s4).put hd
    have hd5 : (upd H4 d (.lst ys)) d = some (.lst ys) := ak
    generalize upd H4 d (.lst ys) = H5 at s5 hd5
    refine ⟨by show 2 <= sizeLine; decide, fun p hp => ?_⟩
    have s6 := s5.put (o := .tup [V.str "good", V.ref d]) hp
    refine q _ p _ (.inr (.inr ⟨eA.symm ▸ hin, hk, rfl⟩)) s6 ⟨d, ak, ys, (az.new hp) _ _ hd5, f1, fun j e ej => ?_⟩
    obtain ⟨i, v, e1, e2, e3⟩ := f2 j e ej
    obtain ⟨e', ed', te⟩ := tx.at e2
    rw [e1] at ed'
    cases ed'
    exact ⟨v, e3, te.same s6⟩
  ·refine bR (by rw [eG, decide_eq_false hin]; rfl) ?_
   refine ⟨_, rfl, by show 2 <= sizeLine; decide, fun p hp => ?_⟩
   exact q _ p _ (.inl ⟨fun u => hin (eA ▸ u), rfl⟩) (s2.put hp) ak
theorem Ac (T : Tx K mg C) (F : Fun K "_law_word" "_law_word" mQ f fd) : Dj P w K mg base 1 f fd yX (CQ C) := by
 refine F.okH Iz (fun vs H Q E h => ?_) (fun cdv A outer s H vs Q E y hr h => ?_)
 ·obtain ⟨x, k, v, rfl, _⟩ := h
  rfl
 ·obtain ⟨x, k, v, rfl, hk, ⟨p, hx, hp⟩, q⟩ := h
  refine ⟨_, QSs.h (aq (aW (i := 1) Iz.nd rfl (Or.inl rfl) (bM ao))
   (aq (bA (fZ (bw (fO (K := K) rfl) Z3 T.inst boot_isinstance (aj (pv 0) (aj (oW T.c_TooMany) ao)))) (aA (bT (mj (K := K) rfl plainAttrs_list PySem.F.slot_list_append PySem.F.type_list_append cF (pv 1) (aj (bN (aj aC (aj (nW (K := K) rfl (pv 0) rfl) ao))) ao)))) aP)
   (aq (bA (fZ (bw (fO (K := K) rfl) Z3 T.inst boot_isinstance (aj (pv 0) (aj (oW T.c_Orphan) ao)))) (aA (bT (mj (K := K) rfl plainAttrs_list PySem.F.slot_list_append PySem.F.type_list_append cF (pv 1) (aj (bN (aj aC (aj (nW (K := K) rfl (pv 0) rfl) ao))) ao)))) aP)
   (aq (bA (fZ (bw (fO (K := K) rfl) Z3 T.inst boot_isinstance (aj (pv 0) (aj (oW T.c_Clash) ao)))) (aA (bT (mj (K := K) rfl plainAttrs_list PySem.F.slot_list_append PySem.F.type_list_append cF (pv 1) (aj (bN (aj aC (aj (nW (K := K) rfl (pv 0) rfl) ao))) ao)))) aP)
   (aq (bA (fZ (bw (fO (K := K) rfl) Z3 T.inst boot_isinstance (aj (pv 0) (aj (oW T.c_NoPart) ao)))) (aA (bT (mj (K := K) rfl plainAttrs_list PySem.F.slot_list_append PySem.F.type_list_append cF (pv 1) (aj (bN (aj aC (aj (nW (K := K) rfl (pv 0) rfl) ao))) ao)))) aP)
   (aq (bA (fZ (bw (fO (K := K) rfl) Z3 T.inst boot_isinstance (aj (pv 0) (aj (oW T.c_NoDrop) ao)))) (aA (bT (mj (K := K) rfl plainAttrs_list PySem.F.slot_list_append PySem.F.type_list_append cF (pv 1) (aj (bN (aj aC (aj (nW (K := K) rfl (pv 0) rfl) ao))) ao)))) aP)
   (aq (bA (PW.pt (vZ (aH oE (bw (EY (K := K) rfl) Z3 T.len boot_len (aj (pv 1) ao)) au (aQ _)) (uY (fZ (bw (fO (K := K) rfl) Z3 T.inst boot_isinstance (aj (pv 0) (aj (oW T.c_Double) ao))))))) (aA (aO (bN (aj aC (aj au ao))))) aP)
   (aA (aO (bc (Bl (K := K) rfl) (pv 1) au)))))))))), ?_⟩
  have hd : ∀ {H' : Hp}, az H H' -> ∀ p', some p = some p' -> ∃ fs, H' p' = some (XdO p' fs) := fun s p' e => ⟨_, by cases e; exact s _ _ hp⟩
  have X := T.xf.x k hk
  have NA := T.xf.a k hk
  have KK := fun j h1 h2 => T.xf.k k j hk h1 h2
  refine ⟨by show 0 <= sizeLine; decide, fun F hF0 => ?_⟩
  have s2 : az H (upd H F (.lst [])) := az.new hF0
  have hF2 : (upd H F (.lst [])) F = some (.lst []) := ak
  generalize upd H F (.lst []) = H2 at s2 hF2
  rcases hk with rfl | rfl | rfl | rfl | rfl
  ·have hp : H p = some (XdO p [("address", v)]) := hp
   have NA : bW K (C 21) "address" := NA
   refine ⟨_, rfl, _, x, C 21, some p, _, _, _, rfl, rfl, s2 _ _ hx, hd s2, X, KK 22 Z0 Z0, _, rfl, aV Z0 ?_⟩
   refine ⟨_, rfl, _, x, C 21, some p, _, _, _, rfl, rfl, s2 _ _ hx, hd s2, X, KK 24 Z0 Z0, _, rfl, aV Z0 ?_⟩
   refine ⟨_, rfl, _, x, C 21, some p, _, _, _, rfl, rfl, s2 _ _ hx, hd s2, X, KK 25 Z0 Z0, _, rfl, aV Z0 ?_⟩
   refine ⟨_, rfl, _, x, C 21, some p, _, _, _, rfl, rfl, s2 _ _ hx, hd s2, X, KK 21 Z0 Z0, _, rfl, bR Z0 ⟨_, rfl, .inl ⟨rfl, _, SqL.of hF2⟩, _, rfl, _, x, C 21, p, _, _, rfl, s2 _ _ hx, s2 _ _ hp, X, NA, rfl, by show 2 <= sizeLine; decide, fun t ht => ⟨F, _, _, rfl, rfl, (az.new ht) _ _ hF2, Z0, ?_⟩⟩⟩
   have s3 : az H (upd (upd H2 t (.tup [.str "none", v])) F (.lst ([] ++ [.ref t]))) := (s2.put ht).over hF0
   have hF3 : (upd (upd H2 t (.tup [.str "none", v])) F (.lst ([] ++ [.ref t]))) F = some (.lst [.ref t]) := ak
   have ht3 : (upd (upd H2 t (.tup [.str "none", v])) F (.lst ([] ++ [.ref t]))) t = some (.tup [.str "none", v]) := by rw [aK (aD hF2 ht).symm]; exact ak
   generalize upd (upd H2 t (.tup [.str "none", v])) F (.lst ([] ++ [.ref t])) = H3 at s3 hF3 ht3
   refine ⟨_, rfl, _, x, C 21, some p, _, _, _, rfl, rfl, s3 _ _ hx, hd s3, X, KK 26 Z0 Z0, _, rfl, aV Z0 ?_⟩
   refine ⟨_, rfl, F, _, rfl, .inl (SqL.of hF3), rfl, _, rfl, Az rfl ⟨_, rfl, _, x, C 21, some p, _, _, _, rfl, rfl, s3 _ _ hx, hd s3, X, KK 23 Z0 Z0, _, rfl, aV Z0 ?_⟩⟩
   exact ⟨_, rfl, F, _, _, _, rfl, rfl, SqL.of hF3, aF (j := 0) rfl, q t _ s3 ht3⟩
  ·have hp : H p = some (XdO p [("at", v)]) := hp
   have NA : bW K (C 22) "at" := NA
   refine ⟨_, rfl, _, x, C 22, some p, _, _, _, rfl, rfl, s2 _ _ hx, hd s2, X, KK 22 Z0 Z0, _, rfl, bR Z0 ⟨_, rfl, .inl ⟨rfl, _, SqL.of hF2⟩, _, rfl, _, x, C 22, p, _, _, rfl, s2 _ _ hx, s2 _ _ hp, X, NA, rfl, by show 2 <= sizeLine; decide, fun t ht => ⟨F, _, _, rfl, rfl, (az.new ht) _ _ hF2, Z0, ?_⟩⟩⟩
   have s3 : az H (upd (upd H2 t (.tup [.str "many", v])) F (.lst ([] ++ [.ref t]))) := (s2.put ht).over hF0
   have hF3 : (upd (upd H2 t (.tup [.str "many", v])) F (.lst ([] ++ [.ref t]))) F = some (.lst [.ref t]) := ak
   have ht3 : (upd (upd H2 t (.tup [.str "many", v])) F (.lst ([] ++ [.ref t]))) t = some (.tup [.str "many", v]) := by rw [aK (aD hF2 ht).symm]; exact ak
   generalize upd (upd H2 t (.tup [.str "many", v])) F (.lst ([] ++ [.ref t])) = H3 at s3 hF3 ht3
   refine ⟨_, rfl, _, x, C 22, some p, _, _, _, rfl, rfl, s3 _ _ hx, hd s3, X, KK 24 Z0 Z0, _, rfl, aV Z0 ?_⟩
   refine ⟨_, rfl, _, x, C 22, some p, _, _, _, rfl, rfl, s3 _ _ hx, hd s3, X, KK 25 Z0 Z0, _, rfl, aV Z0 ?_⟩
   refine ⟨_, rfl, _, x, C 22, some p, _, _, _, rfl, rfl, s3 _ _ hx, hd s3, X, KK 21 Z0 Z0, _, rfl, aV Z0 ?_⟩
   refine ⟨_, rfl, _, x, C 22, some p, _, _, _, rfl, rfl, s3 _ _ hx, hd s3, X, KK 26 Z0 Z0, _, rfl, aV Z0 ?_⟩
   refine ⟨_, rfl, F, _, rfl, .inl (SqL.of hF3), rfl, _, rfl, Az rfl ⟨_, rfl, _, x, C 22, some p, _, _, _, rfl, rfl, s3 _ _ hx, hd s3, X, KK 23 Z0 Z0, _, rfl, aV Z0 ?_⟩⟩
   exact ⟨_, rfl, F, _, _, _, rfl, rfl, SqL.of hF3, aF (j := 0) rfl, q t _ s3 ht3⟩
  ·have hp : H p = some (XdO p [("at", v)]) := hp
   have NA : bW K (C 24) "at" := NA
   refine ⟨_, rfl, _, x, C 24, some p, _, _, _, rfl, rfl, s2 _ _ hx, hd s2, X, KK 22 Z0 Z0, _, rfl, aV Z0 ?_⟩
   refine ⟨_, rfl, _, x, C 24, some p, _, _, _, rfl, rfl, s2 _ _ hx, hd s2, X, KK 24 Z0 Z0, _, rfl, bR Z0 ⟨_, rfl, .inl ⟨rfl, _, SqL.of hF2⟩, _, rfl, _, x, C 24, p, _, _, rfl, s2 _ _ hx, s2 _ _ hp, X, NA, rfl, by show 2 <= sizeLine; decide, fun t ht => ⟨F, _, _, rfl, rfl, (az.new ht) _ _ hF2, Z0, ?_⟩⟩⟩
   have s3 : az H (upd (upd H2 t (.tup [.str "orphan", v])) F (.lst ([] ++ [.ref t]))) := (s2.put ht).over hF0
   have hF3 : (upd (upd H2 t (.tup [.str "orphan", v])) F (.lst ([] ++ [.ref t]))) F = some (.lst [.ref t]) := ak
   have ht3 : (upd (upd H2 t (.tup [.str "orphan", v])) F (.lst ([] ++ [.ref t]))) t = some (.tup [.str "orphan", v]) := by rw [aK (aD hF2 ht).symm]; exact ak
   generalize upd (upd H2 t (.tup [.str "orphan", v])) F (.lst ([] ++ [.ref t])) = H3 at s3 hF3 ht3
   refine ⟨_, rfl, _, x, C 24, some p, _, _, _, rfl, rfl, s3 _ _ hx, hd s3, X, KK 25 Z0 Z0, _, rfl, aV Z0 ?_⟩
   refine ⟨_, rfl, _, x, C 24, some p, _, _, _, rfl, rfl, s3 _ _ hx, hd s3, X, KK 21 Z0 Z0, _, rfl, aV Z0 ?_⟩
   refine ⟨_, rfl, _, x, C 24, some p, _, _, _, rfl, rfl, s3 _ _ hx, hd s3, X, KK 26 Z0 Z0, _, rfl, aV Z0 ?_⟩
   refine ⟨_, rfl, F, _, rfl, .inl (SqL.of hF3), rfl, _, rfl, Az rfl ⟨_, rfl, _, x, C 24, some p, _, _, _, rfl, rfl, s3 _ _ hx, hd s3, X, KK 23 Z0 Z0, _, rfl, aV Z0 ?_⟩⟩
   exact ⟨_, rfl, F, _, _, _, rfl, rfl, SqL.of hF3, aF (j := 0) rfl, q t _ s3 ht3⟩
  ·have hp : H p = some (XdO p [("at", v)]) := hp
   have NA : bW K (C 25) "at" := NA
   refine ⟨_, rfl, _, x, C 25, some p, _, _, _, rfl, rfl, s2 _ _ hx, hd s2, X, KK 22 Z0 Z0, _, rfl, aV Z0 ?_⟩
   refine ⟨_, rfl, _, x, C 25, some p, _, _, _, rfl, rfl, s2 _ _ hx, hd s2, X, KK 24 Z0 Z0, _, rfl, aV Z0 ?_⟩
   refine ⟨_, rfl, _, x, C 25, some p, _, _, _, rfl, rfl, s2 _ _ hx, hd s2, X, KK 25 Z0 Z0, _, rfl, bR Z0 ⟨_, rfl, .inl ⟨rfl, _, SqL.of hF2⟩, _, rfl, _, x, C 25, p, _, _, rfl, s2 _ _ hx, s2 _ _ hp, X, NA, rfl, by show 2 <= sizeLine; decide, fun t ht => ⟨F, _, _, rfl, rfl, (az.new ht) _ _ hF2, Z0, ?_⟩⟩⟩
   have s3 : az H (upd (upd H2 t (.tup [.str "clash", v])) F (.lst ([] ++ [.ref t]))) := (s2.put ht).over hF0
   have hF3 : (upd (upd H2 t (.tup [.str "clash", v])) F (.lst ([] ++ [.ref t]))) F = some (.lst [.ref t]) := ak
   have ht3 : (upd (upd H2 t (.tup [.str "clash", v])) F (.lst ([] ++ [.ref t]))) t = some (.tup [.str "clash", v]) := by rw [aK (aD hF2 ht).symm]; exact ak
   generalize upd (upd H2 t (.tup [.str "clash", v])) F (.lst ([] ++ [.ref t])) = H3 at s3 hF3 ht3
   refine ⟨_, rfl, _, x, C 25, some p, _, _, _, rfl, rfl, s3 _ _ hx, hd s3, X, KK 21 Z0 Z0, _, rfl, aV Z0 ?_⟩
   refine ⟨_, rfl, _, x, C 25, some p, _, _, _, rfl, rfl, s3 _ _ hx, hd s3, X, KK 26 Z0 Z0, _, rfl, aV Z0 ?_⟩
   refine ⟨_, rfl, F, _, rfl, .inl (SqL.of hF3), rfl, _, rfl, Az rfl ⟨_, rfl, _, x, C 25, some p, _, _, _, rfl, rfl, s3 _ _ hx, hd s3, X, KK 23 Z0 Z0, _, rfl, aV Z0 ?_⟩⟩
   exact ⟨_, rfl, F, _, _, _, rfl, rfl, SqL.of hF3, aF (j := 0) rfl, q t _ s3 ht3⟩
  ·have hp : H p = some (XdO p [("address", v)]) := hp
   have NA : bW K (C 26) "address" := NA
   refine ⟨_, rfl, _, x, C 26, some p, _, _, _, rfl, rfl, s2 _ _ hx, hd s2, X, KK 22 Z0 Z0, _, rfl, aV Z0 ?_⟩
   refine ⟨_, rfl, _, x, C 26, some p, _, _, _, rfl, rfl, s2 _ _ hx, hd s2, X, KK 24 Z0 Z0, _, rfl, aV Z0 ?_⟩
   refine ⟨_, rfl, _, x, C 26, some p, _, _, _, rfl, rfl, s2 _ _ hx, hd s2, X, KK 25 Z0 Z0, _, rfl, aV Z0 ?_⟩
   refine ⟨_, rfl, _, x, C 26, some p, _, _, _, rfl, rfl, s2 _ _ hx, hd s2, X, KK 21 Z0 Z0, _, rfl, aV Z0 ?_⟩
   refine ⟨_, rfl, _, x, C 26, some p, _, _, _, rfl, rfl, s2 _ _ hx, hd s2, X, KK 26 Z0 Z0, _, rfl, bR Z0 ⟨_, rfl, .inl ⟨rfl, _, SqL.of hF2⟩, _, rfl, _, x, C 26, p, _, _, rfl, s2 _ _ hx, s2 _ _ hp, X, NA, rfl, by show 2 <= sizeLine; decide, fun t ht => ⟨F, _, _, rfl, rfl, (az.new ht) _ _ hF2, Z0, ?_⟩⟩⟩
   have s3 : az H (upd (upd H2 t (.tup [.str "drop", v])) F (.lst ([] ++ [.ref t]))) := (s2.put ht).over hF0
   have hF3 : (upd (upd H2 t (.tup [.str "drop", v])) F (.lst ([] ++ [.ref t]))) F = some (.lst [.ref t]) := ak
   have ht3 : (upd (upd H2 t (.tup [.str "drop", v])) F (.lst ([] ++ [.ref t]))) t = some (.tup [.str "drop", v]) := by rw [aK (aD hF2 ht).symm]; exact ak
   generalize upd (upd H2 t (.tup [.str "drop", v])) F (.lst ([] ++ [.ref t])) = H3 at s3 hF3 ht3
   refine ⟨_, rfl, F, _, rfl, .inl (SqL.of hF3), rfl, _, rfl, Az rfl ⟨_, rfl, _, x, C 26, some p, _, _, _, rfl, rfl, s3 _ _ hx, hd s3, X, KK 23 Z0 Z0, _, rfl, aV Z0 ?_⟩⟩
   exact ⟨_, rfl, F, _, _, _, rfl, rfl, SqL.of hF3, aF (j := 0) rfl, q t _ s3 ht3⟩
theorem rR (T : Tx K mg C) (F : Fun K "_law_said" "_law_said" mG f fd) : aL P w K mg base CX0 5 f fd uP (xM C) := by
 obtain ⟨fae, dae, Aae⟩ := T.aae
 have Gae : aL P w K mg base CX0 3 fae dae wB (xx C) := pJ T Aae.F
 obtain ⟨fag, dag, Aag, M_text⟩ := T.m_Part_text
 have Gag : aL P w K mg base CX0 4 fag dag dZ (tO C) := jb T Aag.F
 obtain ⟨fai, dai, Aai, M_Part⟩ := T.i_Part
 have Gai : aL P w K mg base CX0 1 fai dai dW (yd C) := eZ T Aai.F
 refine F.oq NZ fun _ _ _ _ H _ Q E hr h => ?_
 ·obtain ⟨l, es, rfl, hs, h200, hg, q⟩ := h
  have hr2 : aY 2 _ := hr.mono Z0
  have hr3 : aY 3 _ := hr.mono Z0
  have hr4 : aY 4 _ := hr
  refine ⟨_, QSs.h (aA (aO (bF (N := ["_law_address", "_law_rows_here"]) [none, none] rfl Z5 (aZ (pv 0)) (fun cl C fp s H => (kh (K := K) (n := 2) rfl rfl (bG (aJ (i := 0) (by decide +kernel : (["_law_address", "_law_rows_here"] : List Str).Nodup) rfl (Or.inl rfl)) (bG (aJ (i := 1) (by decide +kernel : (["_law_address", "_law_rows_here"] : List Str).Nodup) rfl (Or.inl rfl)) jO)))) (fun cl C fp s H => bL) (fun cl C fp s H => (jr (qT M_Part Aai.b Gai hr2 T.c_Part (aj (pv 0) (aj (bF (N := ["_law_row_here"]) [none] rfl Z5 (vy (K := K) rfl (pv 1)) (fun cl C fp s H => (aJ (i := 0) (by decide +kernel : (["_law_row_here"] : List Str).Nodup) rfl (Or.inl rfl))) (fun cl C fp s H => bL) (fun cl C fp s H => (aX Aae Gae hr3 (aj (pv 0) ao)))) ao))) T.pt.cl.cl M_text Gag hr4 Aag.b .nil jl))))), ?_⟩
  obtain ⟨xs, hl, tx⟩ := id hs
  have hxl := tx.1
  have hx12 : xs.length <= sizeLine := le_trans (show xs.length <= 200 by omega) Z0
  refine ⟨_, rfl, l, rfl, ⟨_, SqL.of hl⟩, ?_⟩
  refine jk (xs := xs) (fun τ => ∃ a b, τ = [a, b]) (fun i v H' => ∃ e, es[i]? = some e /\ v = V.str (jd (bh e)))
   (fun i v H' H'' h s => h) hx12 (SqL.of hl) ⟨_, _, rfl⟩ (fun i x τ H1 Q' hx s1 hS k => ?_) (fun ys H1 s1 hyl hys d hd => ?_)
  ·obtain ⟨ta, tb, rfl⟩ := hS
   obtain ⟨e, ed, t, bb, rfl, ht, hbb⟩ := tx.at hx
   have gd := hg e (mem_of_getElem? ed)
   have hb1 := hbb.same s1
   obtain ⟨ws, hw, _⟩ := id hb1
   refine ⟨t, _, rfl, SqT.of (s1 _ _ ht), rfl, _, _, rfl, _, _, rfl, rfl, ?_⟩
   refine ⟨_, rfl, _, rfl, bb, rfl, ⟨_, SqL.of hw⟩, ?_⟩
   refine rM hb1 gd.hi gd.g5 ⟨_, rfl⟩ (fun p d u H2 Q2 tp g5 k2 => ⟨_, rfl, p, d, rfl, tp, g5, fun a l H3 s3 _ _ ra => k2 a l H3 s3 ra⟩) fun zs H2 s2 hra dz hdz => ?_
   have hr := hra dz hdz
   have s3 : az H1 (upd H2 dz (.lst zs)) := s2.put hdz
   generalize upd H2 dz (.lst zs) = H3 at hr s3
   refine fun x dx hx hdx hne => ⟨x, dx, dotted e.ad, dz, e.ds.map iz, rfl, ak, hr.same (bu hx hdx), gd.good.rs, fun lp H4 hlp sb pa => ⟨rfl, ?_⟩⟩
   obtain ⟨dx2, fs2, ea, a1, a2, a3, a4, a5, _⟩ := id pa
   have s4 : az H1 H4 := s3.trans fun b o e => sb b o (bu hx hdx b o e) (aD e hx)
   exact ⟨x, dx2, fs2, rfl, ea, a5, x, _, lp, _, rfl, pa, gd.good.rs, gd.ad.len, fun H5 s5 => k _ _ H5 ⟨_, _, rfl⟩ (s4.trans s5) ⟨e, ed, rfl⟩⟩
  ·have e : ys = ((es.map bh).map jd).map V.str := by
    apply ext_getElem
    ·simp [hyl, hxl]
    ·intro i h1 h2
     obtain ⟨e, ed, ev⟩ := hys i _ (getElem?_eq_getElem h1)
     have hi : i < es.length := by simpa using h2
     rw [getElem?_eq_getElem hi] at ed
     cases ed
     simp [ev]
   rw [e]
   exact q d _ (s1.free hd) (s1.put hd) ak
theorem Be (T : Tx K mg C) (F : Fun K "_law_does" "_law_does" nj f fd) : aL P w K mg base CX0 10 f fd yz (GX C) := by
 obtain ⟨fa9, da9, Aa9⟩ := T.aa9
 have Ga9 : Dj P w K mg base 1 fa9 da9 yX (CQ C) := Ac T Aa9.F
 obtain ⟨fae, dae, Aae⟩ := T.aae
 have Gae : aL P w K mg base CX0 3 fae dae wB (xx C) := pJ T Aae.F
 obtain ⟨fag, dag, Aag, M_text⟩ := T.m_Part_text
 have Gag : aL P w K mg base CX0 4 fag dag dZ (tO C) := jb T Aag.F
 obtain ⟨fbn, dbn, Abn, M_hwith_part⟩ := T.m_House_with_part
 have Gbn : aL P w K mg base (CX1 P w) 9 fbn dbn dg (Gf C) := oA T Abn.F
 obtain ⟨fbk, dbk, Abk, M_hwithout⟩ := T.m_House_without
 have Gbk : aL P w K mg base (CX1 P w) 9 fbk dbk dU (wk C) := p6 T Abk.F
 obtain ⟨fai, dai, Aai, M_Part⟩ := T.i_Part
 have Gai : aL P w K mg base CX0 1 fai dai dW (yd C) := eZ T Aai.F
 refine F.oq yf fun _ _ _ _ H _ Q E hr h => ?_
 ·obtain ⟨h0, l, ps, a, b, D, rfl, hh, g, hD, q⟩ := h
  have hr1 : aY 1 _ := hr.mono Z0
  have hr2 : aY 2 _ := hr.mono Z0
  have hr3 : aY 3 _ := hr.mono Z0
  have hr4 : aY 4 _ := hr.mono Z0
  have hr9 : aY 9 _ := hr
  refine ⟨_, QSs.h (aq (HD (i := 4) T.x_HouseError T.c_HouseError yf.nd rfl rfl rfl rfl (fun pins E W hw => (aA (bA (aH t7 (pv 1) rK (aQ _)) (aA (aW (i := 3) yf.nd rfl (Or.inl rfl) (qx (pv 0) T.hs.cl.cl M_hwith_part Gbn hr9 Abn.b hw (aj (qT M_Part Aai.b Gai hr2 T.c_Part (aj (bc (c7 (K := K) rfl) (pv 1) au) (aj (bF (N := ["_law_row_here"]) [none] rfl Z5 (vy (K := K) rfl (bc (c7 (K := K) rfl) (pv 1) au)) (fun cl C fp s H => (aJ (i := 0) (by decide +kernel : (["_law_row_here"] : List Str).Nodup) rfl (Or.inl rfl))) (fun cl C fp s H => bL) (fun cl C fp s H => (aX Aae Gae hr3 (aj (pv 0) ao)))) ao))) ao)))) (aA (aW (i := 3) yf.nd rfl (Or.inl rfl) (qx (pv 0) T.hs.cl.cl M_hwithout Gbk hr9 Abk.b hw (aj (pv 2) ao))))))) aP (fun x pins => (aA (aO (bN (aj rK (aj (M6 Aa9 Ga9 hr1 (aj (pv 4) ao)) ao)))))))
   (aA (aO (bN (aj (pv 3) (aj (bN (aj aC (aj (bF (N := ["_law_part"]) [none] rfl Z5 (aZ (bC (pv 3) rfl)) (fun cl C fp s H => (aJ (i := 0) (by decide +kernel : (["_law_part"] : List Str).Nodup) rfl (Or.inl rfl))) (fun cl C fp s H => bL) (fun cl C fp s H => (jr (pv 0) T.pt.cl.cl M_text Gag hr4 Aag.b .nil jl))) ao))) ao)))))), ?_⟩
  obtain ⟨dxh, fs, ea, a1, a2, a3, a4, _⟩ := id hh
  rcases hD with ⟨e, ⟨t, bb, rfl, ht, hbb⟩, ge, rfl⟩ | ⟨rfl, z, rfl, hz, rfl⟩
  ·refine ⟨_, rfl, rfl, _, rfl, nA (decide_eq_false Z7) ?_⟩
   obtain ⟨ws, hw, _⟩ := id hbb
   refine ⟨_, rfl, h0, dxh, fs, rfl, ea, a4.2.1, _, rfl, t, _, _, _, rfl, rfl, SqT.of ht, aF (j := 0) rfl, _, rfl, t, _, _, _, rfl, rfl, SqT.of ht, aF (j := 1) rfl, bb, rfl, ⟨_, SqL.of hw⟩, ?_⟩
   refine rM hbb ge.hi ge.g5 ⟨_, rfl⟩ (fun p d u H2 Q2 tp g5 k2 => ⟨_, rfl, p, d, rfl, tp, g5, fun a l H3 s3 _ _ ra => k2 a l H3 s3 ra⟩) fun zs H2 s2 hra dz hdz => ?_
   have hr := hra dz hdz
   have s3 : az H (upd H2 dz (.lst zs)) := s2.put hdz
   generalize upd H2 dz (.lst zs) = H3 at hr s3
   refine fun x dx hx hdx hne => ⟨x, dx, dotted e.ad, dz, e.ds.map iz, rfl, ak, hr.same (bu hx hdx), ge.good.rs, fun lp H4 hlp sb pa => ⟨rfl, ?_⟩⟩
   have s4 : az H H4 := s3.trans fun b o e => sb b o (bu hx hdx b o e) (aD e hx)
   refine ⟨h0, l, x, lp, ps, bh e, rfl, hh.same s4, g, pa, ge.good, fun r hr => ⟨fun ps' er h' l' H5 s5 hh5 => ?_, fun k v er y H5 s5 ev => ?_⟩⟩
   ·have s05 := s4.trans s5
    have ok5 : bH ps' := HS g ge.good (er ▸ hr)
    obtain ⟨dy, gs, eb, c1, _, _, _, xs, hl5, hxl, hxt⟩ := id hh5
    have h12 := ok5.hi
    refine ⟨_, rfl, _, rfl, rdF eb T.hs.cl.cl T.hs.nt c1 ⟨l', rfl, ⟨_, SqL.of hl5⟩, bB (fun i => ((ps'.map jd).map V.str).getD i .non) (le_trans (show xs.length <= 12 by omega) Z0) (SqL.of hl5) (fun i x H6 Q' hx s6 k => ?_) (fun H6 s6 lt hlt => ?_)⟩⟩
    ·have hi : i < ps'.length := by rw [<- hxl]; exact (List.getElem?_eq_some_iff.mp hx).1
     obtain ⟨a, la, e2, pa⟩ := hxt i ps'[i] (getElem?_eq_getElem hi)
     obtain rfl : x = .ref a := by rw [hx] at e2; exact Option.some.inj e2
     have gp := ok5.ok _ (getElem_mem hi)
     have pa6 := pa.same s6
     obtain ⟨dx2, fs2, ea2, d1, d2, d3, d4, d5, _⟩ := id pa6
     refine ⟨_, rfl, a, dx2, fs2, rfl, ea2, d5, a, _, la, _, rfl, pa6, gp.rs, gp.ad.len, fun H7 s7 => ?_⟩
     have k2 := k H7 s7
     rw [Gy hi] at k2
     exact k2
    rw [xQ hxl]
    refine ⟨by show 2 <= sizeLine; decide, fun q1 hq1 => ⟨by show 2 <= sizeLine; decide, fun p1 hp1 => ?_⟩⟩
    have s57 := ((s6.put hlt).put hq1).put (o := .tup [V.ref h', V.ref q1]) hp1
    subst er
    exact q _ p1 _ q1 _ hr (s05.trans s57) ak ⟨h', l', lt, rfl, (az.new hp1) _ _ ak, (az.new hp1) _ _ ((az.new hq1) _ _ ak), hh5.same s57⟩
   ·have s05 := s4.trans s5
    have hk : IsK k := Qp (er ▸ hr)
    obtain ⟨p, e1, e2⟩ := id ev
    refine ⟨y, C k, some p, rfl, e1, T.xf.s k hk, ?_⟩
    refine ⟨_, rfl, y, k, v, rfl, hk, ev, fun wp H6 s6 hwp => ⟨by show 2 <= sizeLine; decide, fun p1 hp1 => ?_⟩⟩
    subst er
    exact q _ p1 _ wp _ hr (s05.trans (s6.put hp1)) ak ⟨rfl, (az.new hp1) _ _ hwp⟩
  ·refine ⟨_, rfl, rfl, _, rfl, jh (decide_eq_true rfl) ?_⟩
   refine ⟨_, rfl, h0, dxh, fs, rfl, ea, a4.2.2, _, rfl, h0, l, ps, z, rfl, hh, g, hz, fun r hr => ⟨fun ps' er h' l' H5 s5 hh5 => ?_, fun k v er y H5 s5 ev => ?_⟩⟩
   ·have s05 := (az.refl H).trans s5
    have ok5 : bH ps' := LR g (er ▸ hr)
    obtain ⟨dy, gs, eb, c1, _, _, _, xs, hl5, hxl, hxt⟩ := id hh5
    have h12 := ok5.hi
    refine ⟨_, rfl, _, rfl, rdF eb T.hs.cl.cl T.hs.nt c1 ⟨l', rfl, ⟨_, SqL.of hl5⟩, bB (fun i => ((ps'.map jd).map V.str).getD i .non) (le_trans (show xs.length <= 12 by omega) Z0) (SqL.of hl5) (fun i x H6 Q' hx s6 k => ?_) (fun H6 s6 lt hlt => ?_)⟩⟩
    ·have hi : i < ps'.length := by rw [<- hxl]; exact (List.getElem?_eq_some_iff.mp hx).1
     obtain ⟨a, la, e2, pa⟩ := hxt i ps'[i] (getElem?_eq_getElem hi)
     obtain rfl : x = .ref a := by rw [hx] at e2; exact Option.some.inj e2
     have gp := ok5.ok _ (getElem_mem hi)
     have pa6 := pa.same s6
     obtain ⟨dx2, fs2, ea2, d1, d2, d3, d4, d5, _⟩ := id pa6
     refine ⟨_, rfl, a, dx2, fs2, rfl, ea2, d5, a, _, la, _, rfl, pa6, gp.rs, gp.ad.len, fun H7 s7 => ?_⟩
     have k2 := k H7 s7
     rw [Gy hi] at k2
     exact k2
    rw [xQ hxl]
    refine ⟨by show 2 <= sizeLine; decide, fun q1 hq1 => ⟨by show 2 <= sizeLine; decide, fun p1 hp1 => ?_⟩⟩
    have s57 := ((s6.put hlt).put hq1).put (o := .tup [V.ref h', V.ref q1]) hp1
    subst er
    exact q _ p1 _ q1 _ hr (s05.trans s57) ak ⟨h', l', lt, rfl, (az.new hp1) _ _ ak, (az.new hp1) _ _ ((az.new hq1) _ _ ak), hh5.same s57⟩
   ·have s05 := (az.refl H).trans s5
    have hk : IsK k := Lg (er ▸ hr)
    obtain ⟨p, e1, e2⟩ := id ev
    refine ⟨y, C k, some p, rfl, e1, T.xf.s k hk, ?_⟩
    refine ⟨_, rfl, y, k, v, rfl, hk, ev, fun wp H6 s6 hwp => ⟨by show 2 <= sizeLine; decide, fun p1 hp1 => ?_⟩⟩
    subst er
    exact q _ p1 _ wp _ hr (s05.trans (s6.put hp1)) ak ⟨rfl, (az.new hp1) _ _ hwp⟩
theorem xV (T : Tx K mg C) (F : Fun K "_law_other" "_law_other" jR f fd) : aL P w K mg base CX0 4 f fd ue Aq := by
 obtain ⟨faa, daa, Aaa⟩ := T.aaa
 have Gaa : aL P w K mg base CX0 1 faa daa jo mL := jy Aaa.F
 obtain ⟨fak, dak, Aak⟩ := T.aak
 have Gak : aL P w K mg base CX0 3 fak dak qG xj := ql T Aak.F
 obtain ⟨fan, dan, Aan⟩ := T.aan
 have Gan : aL P w K mg base CX0 1 fan dan Ar Jc := Jb Aan.F
 refine F.oq m6 fun _ _ _ _ H _ Q E hr h => ?_
 ·obtain ⟨l, lw, c, es, ws, rfl, hs, hne, hok, hg, hlw, hw8, hwn, q⟩ := h
  have hr1 : aY 1 _ := hr.mono Z0
  have hr3 : aY 3 _ := hr
  refine ⟨_, QSs.h (aq (gM (N := ["_law_part"]) [none] (i := 3) m6.nd rfl (Or.inl rfl) rfl Z5 (aZ (pv 0)) (fun cl C fp s H => (aJ (i := 0) (by decide +kernel : (["_law_part"] : List Str).Nodup) rfl (Or.inl rfl))) (fun cl C fp s H => bL) (fun cl C fp s H => (bc (c7 (K := K) rfl) (pv 0) au)))
   (aq (aW (i := 4) m6.nd rfl (Or.inl rfl) (bc bU (bc bI (pv 0) (aX Aaa Gaa hr1 (aj (pv 1) (aj au (aj (bw bz Z3 T.len boot_len (aj (pv 0) ao)) ao))))) au))
   (aq (aW (i := 5) m6.nd rfl (Or.inl rfl) (bc bI (pv 2) (aX Aaa Gaa hr1 (aj (pv 1) (aj au (aj au ao))))))
   (aq (aW (i := 6) m6.nd rfl (Or.inl rfl) (bc bI (bM (aj (pv 4) (aj (pv 4) (aj (pv 5) (aj (aN aM (aN aM (pv 4) aC) (pv 5)) (aj (aN aM (aN aM (pv 5) aC) (bc bI (pv 2) (aX Aaa Gaa hr1 (aj (pv 1) (aj au (aj au ao)))))) ao)))))) (aX Aaa Gaa hr1 (aj (pv 1) (aj au (aj au ao))))))
   (aq (bA (aH rZ (cI plainAttrs_str slot_str_count type_str_count vd (pv 6) (aj aC ao)) au (aQ _)) (aA (aW (i := 6) m6.nd rfl (Or.inl rfl) (pv 5))) aP)
   (aq (aW (i := 7) m6.nd rfl (Or.inl rfl) (bM (aj (aX Aak Gak hr3 (aj (aX Aan Gan hr1 (aj (pv 1) (aj au ao))) (aj (bM ao) (aj (pv 3) (aj (pv 2) ao))))) (aj (bN (aj aC (aj (bc bI (pv 2) (aX Aaa Gaa hr1 (aj (pv 1) (aj au (aj au ao))))) (aj aC (aj aC ao))))) ao))))
   (aq (bA (aH cJ (bc bU (bc bI (pv 7) au) au) (bc bU (bc bI (pv 7) au) au) (aQ _)) (aA (bT (Gv plainAttrs_list PySem.F.slot_list_pop PySem.F.type_list_pop Mz (pv 7)))) aP)
   (aA (aO (bN (aj (pv 6) (aj (eU jU (pv 7) jB (eV (aX Aaa Gaa hr1 (aj (pv 1) (aj au (aj au ao)))))) ao)))))))))))), ?_⟩
  obtain ⟨xs, hl, tx⟩ := id hs
  have hxl := tx.1
  have h12 : es.length <= 12 := by have := hok.hi; rwa [length_map] at this
  have hx12 : xs.length <= sizeLine := le_trans (show xs.length <= 12 by omega) Z0
  have hlen0 : 0 < (xs.length : Int) := by have := length_pos_iff.mpr hne; omega
  have hw0 : ws ≠ [] := fun z => by rw [z] at hw8; cases hw8
  refine ⟨_, rfl, l, rfl, ⟨_, SqL.of hl⟩, bB (fun i => ((adE es).map V.str).getD i .non) hx12 (SqL.of hl) (fun i x H' Q' hx sm k => ?_) (fun H1 s1 b hb => ?_)⟩
  ·obtain ⟨e, ed, t, bb, rfl, ht, hbb⟩ := tx.at hx
   have k2 : Q' (((adE es).map V.str).getD i .non) H' := k H' (az.refl _)
   rw [uA ed] at k2
   exact ⟨_, rfl, t, _, _, _, rfl, rfl, SqT.of (sm _ _ ht), aF (j := 0) rfl, k2⟩
  rw [nM hxl]
  have s2 : az H (upd H1 b (.lst ((adE es).map V.str))) := s1.put hb
  have hb2 : (upd H1 b (.lst ((adE es).map V.str))) b = some (.lst ((adE es).map V.str)) := ak
  generalize upd H1 b (.lst ((adE es).map V.str)) = H2 at s2 hb2
  obtain ⟨e1, t1, he1, eat1, ht1⟩ := zV (c := c) (k := 0) tx hne
  have ge := (hg e1 he1).ad
  refine ⟨_, rfl, _, rfl, _, rfl, l, _, rfl, .inl (SqL.of (s2 _ _ hl)), c, 0, (xs.length : Int), rfl, Z0, Z0, hlen0, fun H3 s3 => ⟨l, _, _, _, rfl, rfl, SqL.of ((s2.trans s3) _ _ hl), eat1, ?_⟩⟩
  obtain ⟨b1, ht1⟩ := ht1
  have s03 := s2.trans s3
  obtain ⟨w, hw, eaw⟩ := cu (c := c) (k := 1) hw0
  rw [hw8] at eaw
  have nw := hwn w hw
  refine ⟨t1, _, _, _, rfl, rfl, SqT.of (s03 _ _ ht1), aF (j := 0) rfl, ?_⟩
  refine ⟨_, rfl, _, rfl, c, 1, 8, rfl, Z0, Z0, Z0, fun H4 s4 => ⟨lw, _, _, _, rfl, rfl, SqL.of ((s03.trans s4) _ _ hlw), eaw, ?_⟩⟩
  have s04 := s03.trans s4
  obtain ⟨w2, hw2, eaw2⟩ := cu (c := c) (k := 2) hw0
  rw [hw8] at eaw2
  have nw2 := hwn w2 hw2
  have h36 := ge.len
  have hd1 : (("." : Str)).length <= 1 := by decide +kernel
  obtain ⟨z, hz, eaz⟩ := cu (zs := [dotted e1.ad, dotted e1.ad, w, dotted e1.ad ++ "." ++ w, w ++ "." ++ w2]) (c := c) (k := 3) Z2
  refine ⟨_, rfl, _, rfl, _, rfl, _, rfl, _, _, rfl, rfl, abS h36 hd1, _, rfl, _, _, rfl, rfl, abS (alS h36 hd1) nw.hi, _, rfl, _, _, rfl, rfl, abS nw.hi hd1, _, rfl, _, rfl, c, 2, 8, rfl, Z0, Z0, Z0, fun H5 s5 => ⟨lw, _, _, _, rfl, rfl, SqL.of ((s04.trans s5) _ _ hlw), eaw2, _, _, rfl, rfl, abS (alS nw.hi hd1) nw2.hi, by show 5 <= sizeLine; decide, fun bl hbl => ?_⟩⟩
  have s06 := (s04.trans s5).put (o := .lst ([dotted e1.ad, dotted e1.ad, w, dotted e1.ad ++ "." ++ w, w ++ "." ++ w2].map V.str)) hbl
  refine ⟨_, rfl, c, 3, 5, rfl, Z0, Z0, Z0, fun H7 s7 => ⟨bl, _, _, _, rfl, rfl, SqL.of (s7 _ _ ak), eaz, ?_⟩⟩
  have s07 := s06.trans s7
  have s27 := s3.trans (s4.trans (s5.trans ((az.new (o := .lst ([dotted e1.ad, dotted e1.ad, w, dotted e1.ad ++ "." ++ w, w ++ "." ++ w2].map V.str)) hbl).trans s7)))
  obtain ⟨zs, gz, rfl⟩ : ∃ zs, p8 zs /\ z = dotted zs := five ge nw nw2 hz
  clear eaz hz s3 s4 s5 s7 s03 s04 s06
  have gas := Fb hok (fun e he => (hg e he).ad)
  have eA : (adE es).map V.str = ((es.map D3.ad).map dotted).map V.str := by rw [show (es.map D3.ad).map dotted = adE es from by rw [map_map]; rfl]
  have k5 := gR c 5 (m := 3) Z0
  have fin : ∀ {ys : List Str} {z : Str} {H13 : Hp} {F G : Addr} {ds : List Q4} {us : List V}, bO ys -> z = dotted ys -> az H H13 -> cX H13 F ds -> H13 F = some (.lst us) -> (∀ d ∈ ds, G5 d) -> ds.length <= 12 -> H13 G = none -> ∀ {p : Addr}, (upd H13 G (.lst (fc us none (some (pick c 5 3))))) p = none -> Q (.ref p) (upd (upd H13 G (.lst (fc us none (some (pick c 5 3))))) p (.tup [.str z, .ref G])) := fun {ys z H13 F G ds us} gy ez s13 tF hF gd hl2 hG {p} hp => by
   subst ez
   have tk := tF.take hF hG (n := (pick c 5 3).toNat) rfl
   rw [Gp us k5] at hp ⊢
   refine q p _ ⟨ys, ds.take (pick c 5 3).toNat⟩ ((s13.put hG).put hp) ⟨p, G, rfl, ak, tk.same (az.new hp)⟩ ⟨gy, le_trans (length_take_le' _ _) hl2, fun d hd => gd d (mem_of_mem_take hd)⟩
  refine ⟨_, rfl, rfl, _, _, rfl, rfl, _, _, rfl, rfl, _, rfl, d7 (fun hc => ?_) (fun hc => ?_)⟩
  ·refine ⟨_, rfl, ?_⟩
   refine ⟨_, rfl, c, 1, rfl, Z0, Z0, fun H8 s8 => ⟨by show 0 <= sizeLine; decide, fun nl hnl => ?_⟩⟩
   have s28 := s27.trans (s8.put (o := .lst []) hnl)
   have s08 := s07.trans (s8.put (o := .lst []) hnl)
   refine ⟨_, rfl, _, rfl, sub c 1, nl, b, lw, [], es.map D3.ad, ws, rfl, ak, by rw [<- eA]; exact s28 _ _ hb2, by simpa using hne, gas, s08 _ _ hlw, hw8, hwn, fun p1 H10 so nm ad wd _ s10 hp1 g4 _ => ?_⟩
   have s010 := s08.trans s10
   obtain ⟨w4, hw4, eaw4⟩ := cu (c := c) (k := 4) hw0
   rw [hw8] at eaw4
   have nw4 := hwn w4 hw4
   refine ⟨_, rfl, _, rfl, c, 4, 8, rfl, Z0, Z0, Z0, fun H11 s11 => ⟨lw, _, _, _, rfl, rfl, SqL.of ((s010.trans s11) _ _ hlw), eaw4, by show 4 <= sizeLine; decide, fun p2 hp2 => ⟨by show 2 <= sizeLine; decide, fun F hF => ?_⟩⟩⟩
   have s12 : az H11 (upd (upd H11 p2 (.tup [.str "let", .str w4, .str "", .str ""])) F (.lst [.ref p1, .ref p2])) := (az.new hp2).put hF
   have hF2 : (upd (upd H11 p2 (.tup [.str "let", .str w4, .str "", .str ""])) F (.lst [.ref p1, .ref p2])) F = some (.lst [.ref p1, .ref p2]) := ak
   have hq2 : (upd (upd H11 p2 (.tup [.str "let", .str w4, .str "", .str ""])) F (.lst [.ref p1, .ref p2])) p2 = some (.tup [.str "let", .str w4, .str "", .str ""]) := (az.new hF) _ _ ak
   have hF0 : H F = none := (s010.trans (s11.trans (az.new hp2))).free hF
   generalize upd (upd H11 p2 (.tup [.str "let", .str w4, .str "", .str ""])) F (.lst [.ref p1, .ref p2]) = H12 at s12 hF2 hq2
   have hq1 := (s11.trans s12) _ _ hp1
   have s012 := s010.trans (s11.trans s12)
   have t1 : TupAt H12 p1 ⟨so, nm, ad, wd⟩ := hq1
   have t2 : TupAt H12 p2 ⟨0, w4, "", ""⟩ := hq2
   have g1 : G5 ⟨so, nm, ad, wd⟩ := G4.g5 g4
   have g2 : G5 ⟨0, w4, "", ""⟩ := ⟨(by show 0 <= 5; decide), fun _ => nw4, fun z => absurd z (by show ¬ (0 : Nat) = 5; decide), .inl ⟨rfl, .inr rfl⟩⟩
   refine ⟨_, rfl, F, _, _, _, rfl, rfl, SqL.of hF2, aF (j := 0) rfl, p1, _, _, _, rfl, rfl, SqT.of hq1, aF (j := 1) rfl, _, rfl, F, _, _, _, rfl, rfl, SqL.of hF2, aF (j := 1) rfl, p2, _, _, _, rfl, rfl, SqT.of hq2, aF (j := 1) rfl, rfl, _, rfl, d7 (fun he => ?_) (fun he => ?_)⟩
   ·refine ⟨_, rfl, .inl ⟨rfl, _, SqL.of hF2⟩, F, _, _, rfl, rfl, hF2, rfl, ?_⟩
    have s13 : az H (upd H12 F (.lst ([V.ref p1, V.ref p2] : List V).dropLast)) := s012.over hF0
    have hF3 : (upd H12 F (.lst ([V.ref p1, V.ref p2] : List V).dropLast)) F = some (.lst [V.ref p1]) := ak
    have t3 : TupAt (upd H12 F (.lst ([V.ref p1, V.ref p2] : List V).dropLast)) p1 ⟨so, nm, ad, wd⟩ := by unfold TupAt; rw [aK (pq hq1 hF2 Z7)]; exact hq1
    generalize upd H12 F (.lst ([V.ref p1, V.ref p2] : List V).dropLast) = H13 at s13 hF3 t3
    refine ⟨_, rfl, _, rfl, _, rfl, c, 5, 3, rfl, Z0, Z0, Z0, fun H14 s14 => ⟨_, rfl, F, _, rfl, SqL.of (s14 _ _ hF3), fun G hG => ⟨by show 2 <= sizeLine; decide, fun p hp => ?_⟩⟩⟩
    exact fin (Am nw) (cL w).symm (s13.trans s14) (KY (s14 _ _ hF3) (s14 _ _ t3)) (s14 _ _ hF3) (fun d hd => by rw [mem_singleton.mp hd]; exact g1) (by show 1 <= 12; decide) hG hp
   ·refine ⟨_, rfl, _, rfl, _, rfl, c, 5, 3, rfl, Z0, Z0, Z0, fun H14 s14 => ⟨_, rfl, F, _, rfl, SqL.of (s14 _ _ hF2), fun G hG => ⟨by show 2 <= sizeLine; decide, fun p hp => ?_⟩⟩⟩
    exact fin (Am nw) (cL w).symm (s012.trans s14) (Kz (s14 _ _ hF2) (s14 _ _ t1) (s14 _ _ t2)) (s14 _ _ hF2) (fun d hd => by
     rcases mem_cons.mp hd with rfl | hd
     ·exact g1
     ·rw [mem_singleton.mp hd]; exact g2) (by show 2 <= 12; decide) hG hp
  ·have gy : bO zs := ⟨gz.lo, by rw [Qn gz] at hc; have := gz.hi; omega, gz.nm⟩
   refine ⟨_, rfl, c, 1, rfl, Z0, Z0, fun H8 s8 => ⟨by show 0 <= sizeLine; decide, fun nl hnl => ?_⟩⟩
   have s28 := s27.trans (s8.put (o := .lst []) hnl)
   have s08 := s07.trans (s8.put (o := .lst []) hnl)
   refine ⟨_, rfl, _, rfl, sub c 1, nl, b, lw, [], es.map D3.ad, ws, rfl, ak, by rw [<- eA]; exact s28 _ _ hb2, by simpa using hne, gas, s08 _ _ hlw, hw8, hwn, fun p1 H10 so nm ad wd _ s10 hp1 g4 _ => ?_⟩
   have s010 := s08.trans s10
   obtain ⟨w4, hw4, eaw4⟩ := cu (c := c) (k := 4) hw0
   rw [hw8] at eaw4
   have nw4 := hwn w4 hw4
   refine ⟨_, rfl, _, rfl, c, 4, 8, rfl, Z0, Z0, Z0, fun H11 s11 => ⟨lw, _, _, _, rfl, rfl, SqL.of ((s010.trans s11) _ _ hlw), eaw4, by show 4 <= sizeLine; decide, fun p2 hp2 => ⟨by show 2 <= sizeLine; decide, fun F hF => ?_⟩⟩⟩
   have s12 : az H11 (upd (upd H11 p2 (.tup [.str "let", .str w4, .str "", .str ""])) F (.lst [.ref p1, .ref p2])) := (az.new hp2).put hF
   have hF2 : (upd (upd H11 p2 (.tup [.str "let", .str w4, .str "", .str ""])) F (.lst [.ref p1, .ref p2])) F = some (.lst [.ref p1, .ref p2]) := ak
   have hq2 : (upd (upd H11 p2 (.tup [.str "let", .str w4, .str "", .str ""])) F (.lst [.ref p1, .ref p2])) p2 = some (.tup [.str "let", .str w4, .str "", .str ""]) := (az.new hF) _ _ ak
   have hF0 : H F = none := (s010.trans (s11.trans (az.new hp2))).free hF
   generalize upd (upd H11 p2 (.tup [.str "let", .str w4, .str "", .str ""])) F (.lst [.ref p1, .ref p2]) = H12 at s12 hF2 hq2
   have hq1 := (s11.trans s12) _ _ hp1
   have s012 := s010.trans (s11.trans s12)
   have t1 : TupAt H12 p1 ⟨so, nm, ad, wd⟩ := hq1
   have t2 : TupAt H12 p2 ⟨0, w4, "", ""⟩ := hq2
   have g1 : G5 ⟨so, nm, ad, wd⟩ := G4.g5 g4
   have g2 : G5 ⟨0, w4, "", ""⟩ := ⟨(by show 0 <= 5; decide), fun _ => nw4, fun z => absurd z (by show ¬ (0 : Nat) = 5; decide), .inl ⟨rfl, .inr rfl⟩⟩
   refine ⟨_, rfl, F, _, _, _, rfl, rfl, SqL.of hF2, aF (j := 0) rfl, p1, _, _, _, rfl, rfl, SqT.of hq1, aF (j := 1) rfl, _, rfl, F, _, _, _, rfl, rfl, SqL.of hF2, aF (j := 1) rfl, p2, _, _, _, rfl, rfl, SqT.of hq2, aF (j := 1) rfl, rfl, _, rfl, d7 (fun he => ?_) (fun he => ?_)⟩
   ·refine ⟨_, rfl, .inl ⟨rfl, _, SqL.of hF2⟩, F, _, _, rfl, rfl, hF2, rfl, ?_⟩
    have s13 : az H (upd H12 F (.lst ([V.ref p1, V.ref p2] : List V).dropLast)) := s012.over hF0
    have hF3 : (upd H12 F (.lst ([V.ref p1, V.ref p2] : List V).dropLast)) F = some (.lst [V.ref p1]) := ak
    have t3 : TupAt (upd H12 F (.lst ([V.ref p1, V.ref p2] : List V).dropLast)) p1 ⟨so, nm, ad, wd⟩ := by unfold TupAt; rw [aK (pq hq1 hF2 Z7)]; exact hq1
    generalize upd H12 F (.lst ([V.ref p1, V.ref p2] : List V).dropLast) = H13 at s13 hF3 t3
    refine ⟨_, rfl, _, rfl, _, rfl, c, 5, 3, rfl, Z0, Z0, Z0, fun H14 s14 => ⟨_, rfl, F, _, rfl, SqL.of (s14 _ _ hF3), fun G hG => ⟨by show 2 <= sizeLine; decide, fun p hp => ?_⟩⟩⟩
    exact fin gy rfl (s13.trans s14) (KY (s14 _ _ hF3) (s14 _ _ t3)) (s14 _ _ hF3) (fun d hd => by rw [mem_singleton.mp hd]; exact g1) (by show 1 <= 12; decide) hG hp
   ·refine ⟨_, rfl, _, rfl, _, rfl, c, 5, 3, rfl, Z0, Z0, Z0, fun H14 s14 => ⟨_, rfl, F, _, rfl, SqL.of (s14 _ _ hF2), fun G hG => ⟨by show 2 <= sizeLine; decide, fun p hp => ?_⟩⟩⟩
    exact fin gy rfl (s012.trans s14) (Kz (s14 _ _ hF2) (s14 _ _ t1) (s14 _ _ t2)) (s14 _ _ hF2) (fun d hd => by
     rcases mem_cons.mp hd with rfl | hd
     ·exact g1
     ·rw [mem_singleton.mp hd]; exact g2) (by show 2 <= 12; decide) hG hp
theorem xX (T : Tx K mg C) (F : Fun K "_law_links" "_law_links" jY f fd) : aL P w K mg base CX0 2 f fd t8 wJ := by
 obtain ⟨fas, das, Aas⟩ := T.aas
 have Gas : aL P w K mg base CX0 1 fas das mY tM := sy T Aas.F
 refine F.oq mF fun _ _ _ _ H _ Q E hr h => ?_
 ·obtain ⟨la, R, es, i, e, rfl, hla, h12, hg, ⟨kvs, hk, hd⟩, ha, q⟩ := h
  have hr1 : aY 1 _ := hr
  refine ⟨_, QSs.h (aq (aW (i := 3) mF.nd rfl (Or.inr rfl) (eU jU (aX Aas Gas hr1 (aj (pv 0) ao)) (eV (wU rm au)) (eV (wU rm au))))
   (aq (gm PassesOwn.never rfl (aZ (oV (aY.u1 hr) (pv 2) (pv 0) (fun _ _ => rfl))) (kh (K := K) (n := 4) rfl rfl (bG (aJ (i := 4) mF.nd rfl (Or.inl rfl)) (bG (aJ (i := 5) mF.nd rfl (Or.inl rfl)) (bG (aJ (i := 6) mF.nd rfl (Or.inl rfl)) (bG (aJ (i := 7) mF.nd rfl (Or.inl rfl)) jO)))))
   (aq (bA (aH o7 (pv 4) (bN (aj aC (aj aC (aj aC ao)))) Z3) (aA (aW (i := 3) mF.nd rfl (Or.inr rfl) (aN qX (pv 3) (aX Aas Gas hr1 (aj (pv 6) ao))))) aP)
   (aA (bA (aH cJ (pv 4) aC (aQ _)) (aA (bT (cI plainAttrs_list PySem.F.slot_list_append PySem.F.type_list_append cF (pv 3) (aj (aN aM (aN aM (pv 6) aC) (pv 7)) ao)))) aP))))
   (aA (aO (bw nC Z3 T.sorted boot_sorted (aj (bF (N := ["_law_one", "_law_named"]) [none, some 3] rfl Z5 (aZ (pv 1)) (fun cl C fp s H => (aJ (i := 0) (by decide +kernel : (["_law_one", "_law_named"] : List Str).Nodup) rfl (Or.inl rfl))) (fun cl C fp s H => (lA (aH (yp (K := K) rfl) (pv 0) (pv 1) Z3))) (fun cl C fp s H => (pv 0))) ao)))))), ?_⟩
  have ge := hg e (mem_of_getElem? ha)
  have ga := ge.ad
  obtain ⟨bb, hv, tb⟩ := hd i e ha
  have hr12 := ge.hi
  obtain ⟨a, ds⟩ := e
  simp only at ga tb hr12 hv
  refine ⟨_, rfl, a, rfl, ga, fun p0 H1 hp0 s1 hp1 => ⟨_, rfl, _, rfl, _, rfl, _, rfl, p0, _, rfl, SqL.of hp1, fun F hF => ?_⟩⟩
  have hF0 : H F = none := s1.free hF
  rw [show fc ((fL a).map V.str) (some (-2)) (some (-1)) = (qd a).map V.str from Nj ga]
  have s2 : az H (upd H1 F (.lst ((qd a).map V.str))) := s1.put hF
  have hF2 : (upd H1 F (.lst ((qd a).map V.str))) F = some (.lst ((qd a).map V.str)) := ak
  generalize upd H1 F (.lst ((qd a).map V.str)) = H2 at s2 hF2
  have hfl : ∀ zs : List Str, (zs.map V.str).all dM = true := cG
  obtain ⟨xs, hx0, hxl, hxt⟩ := tb
  have hlnF : ∀ (ds : List Q4), (∀ d ∈ ds, G5 d) -> ds.length <= 12 -> (qd a ++ ds.flatMap kY).length <= 50 := fun ds hds h12 => by
   have h1 := Ij a
   have h2 := Mw (ds := ds) hds
   rw [length_append]; omega
  refine ⟨_, rfl, _, rfl, R, _, rfl, JP (s2 _ _ hk) hv, bb, rfl, ⟨_, SqL.of (s2 _ _ hx0)⟩, ?_⟩
  refine eQ (xs := xs) (fun k σ H' => ∃ v4 v5 v6 v7 F, σ = [some (.str (dotted a)), some (.ref la), some (.ref R), some (.ref F), v4, v5, v6, v7] /\ H F = none /\ az H H' /\ H' F = some (.lst ((qd a ++ (ds.take k).flatMap kY).map V.str))) ⟨none, none, none, none, F, rfl, hF0, s2, by rw [List.take_zero, List.flatMap_nil, append_nil]; exact hF2⟩ ?_ ?_ ?_
  ·rintro k σ H' _ ⟨v4, v5, v6, v7, F, rfl, _, sm, _⟩
   exact SqL.of (sm _ _ hx0)
  ·rintro k x σ H' hx ⟨v4, v5, v6, v7, F, rfl, hF0, sm, hF'⟩
   have hk : k < ds.length := by rw [<- hxl]; exact (List.getElem?_eq_some_iff.mp hx).1
   have er : ds[k]? = some ds[k] := getElem?_eq_getElem hk
   obtain ⟨p, e2, tp⟩ := hxt k _ er
   obtain rfl : x = .ref p := by rw [hx] at e2; exact Option.some.inj e2
   have g4 := ge.g5 _ (getElem_mem hk)
   rw [rA er, <- append_assoc]
   have h50 := hlnF (ds.take k) (fun d hd => ge.g5 d (mem_of_mem_take hd)) (le_trans (length_take_le' _ _) hr12)
   generalize qd a ++ (ds.take k).flatMap kY = us at hF' h50
   unfold TupAt at tp
   unfold kY
   generalize ds[k] = d at tp g4
   obtain ⟨so, nm, ad, wd⟩ := d
   have h5 := g4.h5
   simp only at h5 tp ⊢
   refine ⟨p, _, rfl, SqT.of (sm _ _ tp), rfl, _, _, rfl, _, _, rfl, _, _, rfl, _, _, rfl, rfl, ?_⟩
   refine ⟨_, rfl, by show 3 <= sizeLine; decide, fun t3 ht3 => ⟨t3, dal, rfl, .inr (SqT.of ak), rfl, rfl, _, rfl, ?_⟩⟩
   have sm3 := sm.put (o := .tup dal) ht3
   have hF3 : (upd H' t3 (.tup dal)) F = some (.lst (us.map V.str)) := (az.new ht3) _ _ hF'
   change (if inV (V.str (jH so)) dal = true then _ else _)
   by_cases c : so = 2 \/ so = 3 \/ so = 4
   ·obtain ⟨ys, gy, rfl, nw⟩ := g4.ha.resolve_left fun z => by have : so = 5 \/ so = 0 := z.2; omega
    refine bR (by rw [DQ h5]; exact decide_eq_true c) ?_
    rw [if_pos c]
    refine ⟨_, rfl, _, rfl, ys, rfl, gy, fun pp H4 hpp s4 hp4 => ?_⟩
    have h3 := gy.hi
    refine ⟨F, pp, _, _, rfl, rfl, s4 _ _ hF3, hp4, le_trans (show (us.map V.str).length + ((fL ys).map V.str).length <= 60 by rw [length_map, length_map, lN]; omega) Z0, fun G hG => ?_⟩
    have sG : az H (upd H4 G (.lst (us.map V.str ++ (fL ys).map V.str))) := (sm3.trans s4).put hG
    have hG0 : H G = none := (sm3.trans s4).free hG
    have hG5 : (upd H4 G (.lst (us.map V.str ++ (fL ys).map V.str))) G = some (.lst ((us ++ pP (dotted ys)).map V.str)) := ak.trans (by rw [qU gy, map_append])
    generalize upd H4 G (.lst (us.map V.str ++ (fL ys).map V.str)) = H5 at sG hG5
    by_cases h4 : so = 4
    ·subst h4
     refine ⟨_, rfl, rfl, _, rfl, bR (sT 4) ?_⟩
     rw [if_pos rfl]
     have h36 := gy.len
     have hl6 : ((us ++ pP (dotted ys)).map V.str).length < 1000 := by rw [length_map, length_append, qU gy, lN]; omega
     refine ⟨_, rfl, .inl ⟨rfl, _, SqL.of hG5⟩, _, rfl, _, _, rfl, rfl, abS h36 iJ, _, rfl, _, _, rfl, rfl, abS (alS h36 iJ) nw.hi, G, _, _, rfl, rfl, hG5, lt_of_lt_of_le hl6 iM, ?_⟩
     exact ⟨_, _, _, _, G, rfl, hG0, sG.over hG0, ak.trans (by rw [<- append_assoc]; exact congrArg (fun z => some (HO.lst z)) (map_append (l₁ := us ++ pP (dotted ys)) (l₂ := [dotted ys ++ "." ++ wd])).symm)⟩
    ·rw [if_neg h4, append_nil]
     exact ⟨_, rfl, rfl, _, rfl, aV (sF so 4 (by unfold sJ; rw [decide_eq_false h4]; rfl) h5) ⟨_, _, _, _, G, rfl, hG0, sG, hG5⟩⟩
   ·have h4 : so ≠ 4 := fun z => c (.inr (.inr z))
    refine aV (by rw [DQ h5]; exact decide_eq_false c) ?_
    rw [if_neg c, if_neg h4, append_nil, append_nil]
    exact ⟨_, rfl, rfl, _, rfl, aV (sF so 4 (by unfold sJ; rw [decide_eq_false h4]; rfl) h5) ⟨_, _, _, _, F, rfl, hF0, sm3, hF3⟩⟩
  ·rintro σ H' ⟨v4, v5, v6, v7, F, rfl, hF0, sm, hF'⟩
   rw [hxl, take_length] at hF'
   refine ⟨_, rfl, la, rfl, ⟨_, SqL.of (sm _ _ hla)⟩, ?_⟩
   refine dI (xs := (adE es).map V.str) (fun v => inV v ((vp a ds).map V.str)) (le_trans (show ((adE es).map V.str).length <= 12 by rw [length_map, length_map]; exact h12) Z0) (SqL.of (sm _ _ hla)) (fun x H7 Q' hx s7 k => ?_) (fun x H7 Q' hx s7 k => ?_) (fun H7 s7 c hc => ?_)
   ·obtain ⟨y, _, rfl⟩ := mem_map.mp hx
    exact ⟨_, rfl, _, rfl, F, _, rfl, .inl (SqL.of (s7 _ _ hF')), rfl, hfl _, _, rfl, k H7 (az.refl _)⟩
   ·exact ⟨_, rfl, k H7 (az.refl _)⟩
   rw [Dd]
   refine ⟨c, _, rfl, SqL.of ak, Nat.lt_of_le_of_lt (length_filter_le _ _) (by rw [length_map]; omega), fun b zs h1 h2 hb => ?_⟩
   have s8 := (sm.trans s7).put (o := .lst (((adE es).filter fun y => decide (y ∈ vp a ds)).map V.str)) hc
   exact q b _ zs (s8.free hb) (s8.put hb) h1 h2 ak
theorem vQ (T : Tx K mg C) (F : Fun K "_law_stands" "_law_stands" iY f fd) : aL P w K mg base CX0 6 f fd qz (zY C) := by
 obtain ⟨faj, daj, Aaj⟩ := T.aaj
 have Gaj : aL P w K mg base CX0 5 faj daj uP (xM C) := rR T Aaj.F
 obtain ⟨fba, dba, Aba⟩ := T.aba
 have Gba : aL P w K mg base (CX1 P w) 5 fba dba qF (Ed C) := GD T Aba.F
 obtain ⟨fbd, dbd, Abd⟩ := T.abd
 have Gbd : aL P w K mg base CX0 2 fbd dbd t8 wJ := xX T Abd.F
 obtain ⟨fag, dag, Aag, M_text⟩ := T.m_Part_text
 have Gag : aL P w K mg base CX0 4 fag dag dZ (tO C) := jb T Aag.F
 obtain ⟨faq, daq, Aaq, M_haddresses⟩ := T.m_House_addresses
 have Gaq : aL P w K mg base CX0 1 faq daq b7 (yR C) := iC T Aaq.F
 obtain ⟨fac, dac, Aac, M_hhas⟩ := T.m_House_has
 have Gac : aL P w K mg base CX0 1 fac dac cO (uF C) := gB T Aac.F
 obtain ⟨fap, dap, Aap, M_hpart⟩ := T.m_House_part
 have Gap : aL P w K mg base (CX1 P w) 3 fap dap eN (yo C) := nQ T Aap.F
 refine F.oq qO fun _ _ _ _ H _ Q E hr h => ?_
 ·obtain ⟨h0, l, ls, es, rfl, hh, g, hs, hg, q⟩ := h
  have hr1 : aY 1 _ := hr.mono Z0
  have hr2 : aY 2 _ := hr.mono Z0
  have hr3 : aY 3 _ := hr.mono Z0
  have hr4 : aY 4 _ := hr.mono Z0
  have hr5 : aY 5 _ := hr
  refine ⟨_, QSs.h (aq (aW (i := 2) qO.nd rfl (Or.inl rfl) (dX (Cu rfl) Z3 T.t_dict PyProof.Rows.boot_dict (aj (pv 1) ao)))
   (aq (gM (N := ["_law_one"]) [none] (i := 3) qO.nd rfl (Or.inl rfl) rfl Z5 (aZ (pv 1)) (fun cl C fp s H => (aJ (i := 0) (by decide +kernel : (["_law_one"] : List Str).Nodup) rfl (Or.inl rfl))) (fun cl C fp s H => bL) (fun cl C fp s H => (bc (c7 (K := K) rfl) (pv 0) au)))
   (aq (bA (PW.pt (vZ (aH (uL (K := K) rfl hr.units) (bF (N := ["_law_one"]) [none] rfl Z5 (aZ (bC (pv 0) rfl)) (fun cl C fp s H => (aJ (i := 0) (by decide +kernel : (["_law_one"] : List Str).Nodup) rfl (Or.inl rfl))) (fun cl C fp s H => bL) (fun cl C fp s H => (jr (pv 0) T.pt.cl.cl M_text Gag hr4 Aag.b .nil jl))) (aX Aaj Gaj hr5 (aj (pv 1) ao)) (aQ _)) (uY (aH (uL (K := K) rfl hr.units) (jr (pv 0) T.hs.cl.cl M_haddresses Gaq hr1 Aaq.b .nil jl) (bw nC Z3 T.sorted boot_sorted (aj (pv 3) ao)) (aQ _))))) (aA (aO pB)) aP)
   (aq (gm PassesOwn.never rfl (aZ (pv 1)) (aJ (i := 4) qO.nd rfl (Or.inl rfl))
   (aq (bA (PW.pt (vZ (aH CT (tY (pv 0) T.hs.cl.cl M_hhas Gac hr1 Aac.b .nil jl (aj (bc bU (pv 4) au) ao)) pB (aQ _)) (uY (aH oE (jr (qx (pv 0) T.hs.cl.cl M_hpart Gap hr3 Aap.b xJ (aj (bc bU (pv 4) au) ao)) T.pt.cl.cl M_text Gag hr4 Aag.b .nil jl) (bc bI (aX Aaj Gaj hr5 (aj (bM (aj (pv 4) ao)) ao)) au) (aQ _))))) (aA (aO pB)) aP)
   (aA (bA (aH (uL (K := K) rfl hr.units) (Ga Aba Gba hr5 xJ (aj (pv 0) (aj (bc bU (pv 4) au) ao))) (aX Abd Gbd hr2 (aj (bc bU (pv 4) au) (aj (pv 3) (aj (pv 2) ao)))) (aQ _)) (aA (aO pB)) aP))))
   (aA (aO pB)))))), ?_⟩
  obtain ⟨dx, fs, ea, a1, a2, a3, a4, xs, hl, hxl, hxt⟩ := id hh
  obtain ⟨ys, hls, tx⟩ := id hs
  have hyl := tx.1
  have eA := ug es
  have h12 : es.length <= 12 := by have := g.hi; rwa [length_map] at this
  have hy12 : ys.length <= sizeLine := le_trans (show ys.length <= 12 by omega) Z0
  rw [length_map] at hxl
  obtain ⟨ts, htl, hts⟩ := fJ (fun i v (p : Key × V) => ∃ e t b, es[i]? = some e /\ v = V.ref t /\ H t = some (.tup [.str (dotted e.ad), .ref b]) /\ cX H b e.ds /\ p = (.inr (dotted e.ad), .ref b)) ys 0 fun i v ev => by
   obtain ⟨e, ed, t, b, rfl, ht, hb⟩ := tx.at ev
   exact ⟨_, e, t, b, by rw [Nat.zero_add]; exact ed, rfl, ht, hb, rfl⟩
  refine ⟨_, rfl, ls, ys, ts, rfl, SqL.of hls, htl.symm, fun i p ep => ?_, fun R hR => ?_⟩
  ·have hi : i < ys.length := by rw [<- htl]; exact (List.getElem?_eq_some_iff.mp ep).1
   obtain ⟨p', e1, e, t, b, _, e2, ht, _, rfl⟩ := hts i _ (getElem?_eq_getElem hi)
   rw [ep] at e1
   cases e1
   exact ⟨t, by rw [getElem?_eq_getElem hi, e2], SqT.of ht⟩
  have s1 : az H (upd H R (.dK (putL ts))) := az.new hR
  have hdE : zU (upd H R (.dK (putL ts))) R es := ⟨_, ak, fun i e ed => by
   have hi : i < ys.length := by rw [hyl]; exact (List.getElem?_eq_some_iff.mp ed).1
   obtain ⟨p, e1, e', t, b, ed', _, _, hb, rfl⟩ := hts i _ (getElem?_eq_getElem hi)
   rw [Nat.zero_add, ed] at ed'
   cases ed'
   refine ⟨b, zp ts [] i e1 fun j p' hj ej z => ?_, hb.same s1⟩
   have hj2 : j < ys.length := by rw [<- htl]; exact (List.getElem?_eq_some_iff.mp ej).1
   obtain ⟨p2, e2, e3, t2, b2, ed2, _, _, _, rfl⟩ := hts j _ (getElem?_eq_getElem hj2)
   rw [ej] at e2
   cases e2
   rw [Nat.zero_add] at ed2
   have nd := g.nd
   rw [eA] at nd
   have k1 : (adE es)[i]? = some (dotted e.ad) := by rw [getElem?_map, ed]; rfl
   have k2 : (adE es)[j]? = some (dotted e3.ad) := by rw [getElem?_map, ed2]; rfl
   have hij : i = j := (getElem?_inj (List.getElem?_eq_some_iff.mp k1).1 nd).mp (by rw [k1, k2, Sum.inr.inj z])
   omega⟩
  generalize upd H R (.dK (putL ts)) = H1 at s1 hdE
  refine ⟨_, rfl, ls, rfl, ⟨_, SqL.of (s1 _ _ hls)⟩, bB (fun i => ((adE es).map V.str).getD i .non) hy12 (SqL.of (s1 _ _ hls)) (fun i x H' Q' hx sm k => ?_) (fun H2 s2 la hla0 => ?_)⟩
  ·obtain ⟨e, ed, t, bb, rfl, ht, hbb⟩ := tx.at hx
   have k2 : Q' (((adE es).map V.str).getD i .non) H' := k H' (az.refl _)
   rw [uA ed] at k2
   exact ⟨_, rfl, t, _, _, _, rfl, rfl, SqT.of ((s1.trans sm) _ _ ht), aF (j := 0) rfl, k2⟩
  rw [nM hyl]
  have s13 : az H1 (upd H2 la (.lst ((adE es).map V.str))) := s2.put hla0
  have hla : (upd H2 la (.lst ((adE es).map V.str))) la = some (.lst ((adE es).map V.str)) := ak
  generalize upd H2 la (.lst ((adE es).map V.str)) = H3 at s13 hla
  have s3 := s1.trans s13
  have hd3 := hdE.same s13
  have gok : ∀ {i : Nat} {p : aU}, (es.map bh)[i]? = some p -> lK p := fun {i p} e => g.at e
  refine ⟨_, rfl, rdF (s3 _ _ ea) T.hs.cl.cl T.hs.nt a1 ⟨l, rfl, ⟨_, SqL.of (s3 _ _ hl)⟩, bB (fun i => (((es.map bh).map jd).map V.str).getD i .non) (le_trans (show xs.length <= 12 by omega) Z0) (SqL.of (s3 _ _ hl)) (fun i x H' Q' hx sm k => ?_) (fun H4 s4 b4 hb4 => ?_)⟩⟩
  ·have hi : i < (es.map bh).length := by rw [length_map, <- hxl]; exact (List.getElem?_eq_some_iff.mp hx).1
   obtain ⟨a, la, e2, pa⟩ := hxt i _ (getElem?_eq_getElem hi)
   obtain rfl : x = .ref a := by rw [hx] at e2; exact Option.some.inj e2
   have gp := gok (getElem?_eq_getElem hi)
   have pa6 := pa.same (s3.trans sm)
   obtain ⟨dx2, fs2, ea2, d1, d2, d3, d4, d5, _⟩ := id pa6
   refine ⟨_, rfl, a, dx2, fs2, rfl, ea2, d5, a, _, la, _, rfl, pa6, gp.rs, gp.ad.len, fun H7 s7 => ?_⟩
   have k2 := k H7 s7
   rw [Gy hi] at k2
   exact k2
  rw [xQ (by rw [length_map]; exact hxl)]
  have s35 : az H3 (upd H4 b4 (.lst (((es.map bh).map jd).map V.str))) := s4.put hb4
  have hb5 : (upd H4 b4 (.lst (((es.map bh).map jd).map V.str))) b4 = some (.lst (((es.map bh).map jd).map V.str)) := ak
  generalize upd H4 b4 (.lst (((es.map bh).map jd).map V.str)) = H5 at s35 hb5
  have s5 := s3.trans s35
  refine ⟨_, rfl, ls, es, rfl, hs.same s5, le_trans h12 Z0, hg, fun b6 H6 _ s56 hb6 => ⟨b4, b6, rfl, rfl, qR (s56 _ _ hb5) hb6 (oY _), _, rfl, iR ?_⟩⟩
  have s6 := s5.trans s56
  refine ⟨_, rfl, h0, dx, fs, rfl, s6 _ _ ea, a2, h0, l, _, rfl, hh.same s6, g, fun ba H7 zs hba s67 hz1 hz2 hb7 => ?_⟩
  rw [eA] at hz1
  have s37 := (s35.trans s56).trans s67
  refine ⟨_, rfl, la, adE es, rfl, SqL.of (s37 _ _ hla), by rw [length_map]; omega, fun c8 zs2 k1 k2 hc8 => ?_⟩
  obtain rfl : zs = zs2 := Ck (hz1.trans k1.symm) hz2 k2
  have s38 : az H3 (upd H7 c8 (.lst (zs.map V.str))) := s37.put hc8
  refine ⟨ba, c8, rfl, rfl, qR ((az.new hc8) _ _ hb7) ak (oY zs), _, rfl, iR ?_⟩
  generalize upd H7 c8 (.lst (zs.map V.str)) = H8 at s38
  refine ⟨_, rfl, ls, rfl, ⟨_, SqL.of ((s3.trans s38) _ _ hls)⟩, ?_⟩
  refine eQ (xs := ys) (fun i σ H' => ∃ v4, σ = [some (.ref h0), some (.ref ls), some (.ref R), some (.ref la), v4] /\ az H3 H') ⟨none, rfl, s38⟩ ?_ ?_ ?_
  ·rintro i σ H' _ ⟨v4, rfl, sm⟩
   exact SqL.of ((s3.trans sm) _ _ hls)
  ·rintro i x σ Ha hx ⟨v4, rfl, sm⟩
   obtain ⟨e, ed, t, bb, rfl, ht, hbb⟩ := tx.at hx
   have sa := s3.trans sm
   have ge := hg e (mem_of_getElem? ed)
   have h36 := ge.ad.len
   have epq : (es.map bh)[i]? = some (bh e) := by rw [getElem?_map, ed]; rfl
   have hin : dotted e.ad ∈ adS (es.map bh) := mem_map.mpr ⟨bh e, mem_of_getElem? epq, rfl⟩
   refine ⟨_, rfl, h0, dx, fs, rfl, sa _ _ ea, a3, _, rfl, t, _, _, _, rfl, rfl, SqT.of (sa _ _ ht), aF (j := 0) rfl, h0, l, _, dotted e.ad, rfl, hh.same sa, g, fun Hb sab => ⟨_, true, rfl, rfl, _, rfl, aV (by rw [decide_eq_true hin]; rfl) ?_⟩⟩
   have sb := sa.trans sab
   refine ⟨_, rfl, h0, dx, fs, rfl, sb _ _ ea, a4.1, _, rfl, t, _, _, _, rfl, rfl, SqT.of (sb _ _ ht), aF (j := 0) rfl, h0, l, _, dotted e.ad, rfl, hh.same sb, g, Z1, fun j p a lr Hc sbc ej ez pa => ?_, fun z => absurd hin z⟩
   obtain rfl : p = bh e := wW g.nd ej epq ez
   have sc := sb.trans sbc
   obtain ⟨dx2, fs2, ea2, d1, d2, d3, d4, d5, _⟩ := id pa
   refine ⟨a, dx2, fs2, rfl, ea2, d5, a, _, lr, _, rfl, pa, ge.good.rs, h36, fun Hd scd => ?_⟩
   have sd := sc.trans scd
   refine ⟨_, rfl, by show 1 <= sizeLine; decide, fun o ho => ?_⟩
   have sde := az.new (o := .lst [V.ref t]) ho
   refine ⟨o, [e], rfl, ⟨_, ak, rfl, fun j e' ej => ?_⟩, by show 1 <= 200; decide, fun e' he' => by rw [mem_singleton.mp he']; exact ge, fun bf Hf _ sef hbf => ⟨bf, _, _, _, rfl, rfl, SqL.of hbf, aF (j := 0) rfl, rfl, _, rfl, jh (decide_eq_true rfl) ?_⟩⟩
   ·match j, ej with
    | 0, ej => cases ej; exact ⟨_, rfl, t, bb, rfl, (sd.trans sde) _ _ ht, hbb.same (sd.trans sde)⟩
    | n + 1, ej => simp at ej
   have s3f := sm.trans (sab.trans (sbc.trans (scd.trans (sde.trans sef))))
   have sf := s3.trans s3f
   refine ⟨_, rfl, _, rfl, t, _, _, _, rfl, rfl, SqT.of (sf _ _ ht), aF (j := 0) rfl, h0, l, _, dotted e.ad, rfl, hh.same sf, g, Z1, fun j p ej ez b9 H9 zs9 hb9 s9 k1 k2 hb9' => ?_, fun z => absurd hin z⟩
   obtain rfl : p = bh e := wW g.nd ej epq ez
   rw [eA] at k1
   have s39 := s3f.trans s9
   refine ⟨_, rfl, t, _, _, _, rfl, rfl, SqT.of ((s3.trans s39) _ _ ht), aF (j := 0) rfl, _, rfl, _, rfl, la, R, es, i, e, rfl, s39 _ _ hla, h12, hg, hd3.same s39, ed, fun b10 H10 zs10 _ s10 k3 k4 hb10 => ?_⟩
   have eq : zs9.filter (fun y => decide (y ∈ linked (bh e))) = zs10 := Ep k1 k2 k3 k4 fun y hy => by
    obtain ⟨e', he', rfl⟩ := mem_map.mp hy
    exact decide_eq_decide.mpr (ge.linked (oZ (hg e' he').ad))
   rw [eq] at hb9'
   exact ⟨b9, b10, rfl, rfl, qR (s10 _ _ hb9') hb10 (oY _), _, rfl, iR ⟨_, rfl, s39.trans s10⟩⟩
  ·rintro σ H9 ⟨v4, rfl, sm⟩
   exact q _ (s3.trans sm)
theorem MT (T : Tx K mg C) (F : Fun K "law" "law" Gk f fd) : aL P w K mg base CX0 11 f fd K9 (DR K) := by
 obtain ⟨faz, daz, Aaz⟩ := T.aaz
 have Gaz : aL P w K mg base CX0 5 faz daz xq (zH K) := Av T Aaz.F
 obtain ⟨fa0, da0, Aa0⟩ := T.aa0
 have Ga0 : aL P w K mg base CX0 4 fa0 da0 tQ (Bm C) := xW T Aa0.F
 obtain ⟨fan, dan, Aan⟩ := T.aan
 have Gan : aL P w K mg base CX0 1 fan dan Ar Jc := Jb Aan.F
 obtain ⟨fa2, da2, Aa2⟩ := T.aa2
 have Ga2 : aL P w K mg base CX0 4 fa2 da2 ue Aq := xV T Aa2.F
 obtain ⟨faw, daw, Aaw⟩ := T.aaw
 have Gaw : aL P w K mg base CX0 1 faw daw xu Hk := zx T Aaw.F
 obtain ⟨fab, dab, Aab⟩ := T.aab
 have Gab : aL P w K mg base CX0 1 fab dab rF (tR K) := xF Aab.F T.len
 obtain ⟨faa, daa, Aaa⟩ := T.aaa
 have Gaa : aL P w K mg base CX0 1 faa daa jo mL := jy Aaa.F
 obtain ⟨fa8, da8, Aa8⟩ := T.aa8
 have Ga8 : aL P w K mg base CX0 2 fa8 da8 Dt IW := Br T Aa8.F
 obtain ⟨far, dar, Aar⟩ := T.aar
 have Gar : aL P w K mg base CX0 10 far dar yz (GX C) := Be T Aar.F
 obtain ⟨fau, dau, Aau⟩ := T.aau
 have Gau : aL P w K mg base CX0 6 fau dau qz (zY C) := vQ T Aau.F
 obtain ⟨faj, daj, Aaj⟩ := T.aaj
 have Gaj : aL P w K mg base CX0 5 faj daj uP (xM C) := rR T Aaj.F
 obtain ⟨fac, dac, Aac, M_hhas⟩ := T.m_House_has
 have Gac : aL P w K mg base CX0 1 fac dac cO (uF C) := gB T Aac.F
 obtain ⟨fah, dah, Aah, M_House⟩ := T.i_House
 have Gah : aL P w K mg base (CX1 P w) 7 fah dah cV (tG C) := d9 T Aah.F
 refine F.oq fH fun _ _ _ _ H _ Q E hr h => ?_
 ·obtain ⟨S, ns, rfl, hS, hlen, q⟩ := h
  have hr1 : aY 1 _ := hr.mono Z0
  have hr2 : aY 2 _ := hr.mono Z0
  have hr4 : aY 4 _ := hr.mono Z0
  have hr5 : aY 5 _ := hr.mono Z0
  have hr6 : aY 6 _ := hr.mono Z0
  have hr8 : aY 8 _ := hr.mono Z0
  have hr10 : aY 10 _ := hr
  refine ⟨_, QSs.h (aq (yW (aX Aaz Gaz hr5 (aj (pv 0) ao)) (kh (K := K) (n := 3) rfl rfl (bG (aJ (i := 1) fH.nd rfl (Or.inl rfl)) (bG (aJ (i := 2) fH.nd rfl (Or.inl rfl)) (bG (aJ (i := 3) fH.nd rfl (Or.inr rfl)) jO)))))
   (aq (gM (N := ["_law_address", "_law_rows_here"]) [none, some 3] (i := 4) fH.nd rfl (Or.inl rfl) rfl Z5 (aZ (pv 2)) (fun cl C fp s H => (aJ (i := 0) (by decide +kernel : (["_law_address", "_law_rows_here"] : List Str).Nodup) rfl (Or.inl rfl))) (fun cl C fp s H => bL) (fun cl C fp s H => (bN (aj (pv 0) (aj (oV (aY.u1 hr) (pv 1) (pv 0) (fun _ _ => rfl)) ao)))))
   (aq (aW (i := 5) fH.nd rfl (Or.inl rfl) (xT M_House Aah.b Gah hr8 T.c_House xJ (aj (aX Aa0 Ga0 hr4 (aj (pv 2) (aj (pv 3) ao))) ao)))
   (aq (gm PassesOwn.never rfl (gF Z3 T.range (aj au ao)) (aJ (i := 6) fH.nd rfl (Or.inl rfl))
   (aq (aW (i := 7) fH.nd rfl (Or.inl rfl) (aX Aan Gan hr1 (aj (aX Aab Gab hr1 (aj (pv 0) (aj (aN cN au (aN ji (pv 6) au)) ao))) (aj (aN cN au (aN my (pv 6) au)) ao))))
   (aq (aW (i := 8) fH.nd rfl (Or.inr rfl) (aX Aa2 Ga2 hr4 (aj (pv 4) (aj (pv 7) (aj (pv 1) ao)))))
   (aq (aW (i := 9) fH.nd rfl (Or.inl rfl) (bc bI (bM (aj (bc bU (pv 8) au) (aj (bc bU (bc bI (pv 4) (aX Aaa Gaa hr1 (aj (pv 7) (aj au (aj (bw bz Z3 T.len boot_len (aj (pv 4) ao)) ao))))) au) ao))) (aX Aaa Gaa hr1 (aj (pv 7) (aj au (aj au ao))))))
   (aq (aW (i := 10) fH.nd rfl (Or.inl rfl) (aX Aaw Gaw hr1 (aj (pv 4) (aj (pv 9) ao))))
   (aq (bA (aH rZ (aX Aaa Gaa hr1 (aj (pv 7) (aj au (aj au ao)))) au (aQ _)) (aq (gM (N := ["_law_one", "_law_part"]) [none, some 8] (i := 11) fH.nd rfl (Or.inl rfl) rfl Z5 (aZ (pv 4)) (fun cl C fp s H => (aJ (i := 0) (by decide +kernel : (["_law_one", "_law_part"] : List Str).Nodup) rfl (Or.inl rfl))) (fun cl C fp s H => bL) (fun cl C fp s H => (bc (Bl (K := K) rfl) (bM (aj (pv 0) (aj (pv 1) ao))) (dX Ft Z3 T.t_int PyProof.Rows.boot_int (aj (o9 cJ (bc (c7 (K := K) rfl) (pv 0) au) (bc (c7 (K := K) rfl) (pv 1) au) (aQ _)) ao)))))
   (aq (bA (PW.pt (iH (aH (Nv (K := K) rfl hr.units) (pv 11) (pv 4) (aQ _)) (gH (aH cP (bc bU (pv 8) au) (bF (N := ["_law_one"]) [none] rfl Z5 (aZ (pv 4)) (fun cl C fp s H => (aJ (i := 0) (by decide +kernel : (["_law_one"] : List Str).Nodup) rfl (Or.inl rfl))) (fun cl C fp s H => bL) (fun cl C fp s H => (bc (c7 (K := K) rfl) (pv 0) au))) Z3)))) (aA (aW (i := 11) fH.nd rfl (Or.inl rfl) (aN qX (pv 4) (bM (aj (pv 8) ao))))) aP)
   (aq (aW (i := 10) fH.nd rfl (Or.inl rfl) (aX Aa8 Ga8 hr2 (aj (pv 11) ao)))
   (aA (yW (aX Aar Gar hr10 (aj (pv 5) (aj (pv 8) (aj aC ao)))) (kh (K := K) (n := 2) rfl rfl (bG (aJ (i := 12) fH.nd rfl (Or.inl rfl)) (bG (aJ (i := 13) fH.nd rfl (Or.inl rfl)) jO)))))))) (aA (yW (aX Aar Gar hr10 (aj (pv 5) (aj rK (aj (pv 9) ao)))) (kh (K := K) (n := 2) rfl rfl (bG (aJ (i := 12) fH.nd rfl (Or.inl rfl)) (bG (aJ (i := 13) fH.nd rfl (Or.inl rfl)) jO))))))
   (aq (bA (PW.pt (vZ (aH oE (bc bU (pv 13) au) (bc bU (pv 10) au) (aQ _)) (vZ (PW.pt (iH (aH cJ (bc bU (pv 10) au) aC (aQ _)) (gH (aH (uL (K := K) rfl hr.units) (bc bU (pv 13) au) (aX Aaj Gaj hr5 (aj (bc bU (pv 10) au) ao)) (aQ _))))) (uY (PW.pt (iH (aH oE (bc bU (pv 10) au) aC (aQ _)) (gH (aH (uL (K := K) rfl hr.units) (pv 13) (pv 10) (aQ _))))))))) (aA (aO pB)) aP)
   (aq (bA (PW.pt (vZ (xr (fZ (aX Aau Gau hr6 (aj (pv 5) (aj (pv 4) ao))))) (uY (PW.pt (iH (aH t7 (pv 12) rK (aQ _)) (gH (xr (fZ (aX Aau Gau hr6 (aj (pv 12) (aj (bc bU (pv 10) au) ao))))))))))) (aA (aO pB)) aP)
   (aq (bA (PW.pt (iH (aH t7 (pv 12) rK (aQ _)) (iH (aH cP (pv 9) (bF (N := ["_law_one"]) [none] rfl Z5 (aZ (bc bU (pv 10) au)) (fun cl C fp s H => (aJ (i := 0) (by decide +kernel : (["_law_one"] : List Str).Nodup) rfl (Or.inl rfl))) (fun cl C fp s H => bL) (fun cl C fp s H => (bc (c7 (K := K) rfl) (pv 0) au))) Z3) (gH (aH CT (tY (pv 12) T.hs.cl.cl M_hhas Gac hr1 Aac.b .nil jl (aj (pv 9) ao)) pB (aQ _)))))) (aA (aO pB)) aP)
   (aA (bA (PW.pt (iH (aH t7 (pv 12) rK (aQ _)) (gH (aH rZ (bw bz Z3 T.len boot_len (aj (bc bU (pv 10) au) ao)) au (aQ _))))) (aq (aW (i := 5) fH.nd rfl (Or.inl rfl) (pv 12))
   (aA (aW (i := 4) fH.nd rfl (Or.inl rfl) (bc bU (pv 10) au)))) aP)))))))))))
   (aA (aO pB)))))), ?_⟩
  refine ⟨_, rfl, S, ns, rfl, hS, fun pt lw la R ws as L rs H0 H1 hpt s1 hlw hw8 hwn hla hne g hd hok => ?_⟩
  refine ⟨pt, _, rfl, SqT.of hpt, rfl, _, _, rfl, _, _, rfl, _, _, rfl, rfl, ?_⟩
  have h12 := g.hi
  have hml : ((as.map dotted).map V.str).length = as.length := by rw [length_map, length_map]
  have ga : ∀ e ∈ mkE as rs, G3 e := Ky g hok
  have gh := Ny g hok
  have hE0 : mkE as rs ≠ [] := fun z => by have := qD as rs; rw [z] at this; exact hne (List.length_eq_zero_iff.mp this.symm)
  refine ⟨_, rfl, la, rfl, ⟨_, SqL.of hla⟩, jk (xs := (as.map dotted).map V.str) (fun τ => ∃ u, τ = [u, some (.ref R)]) (fun i v H' => ∃ a t, as[i]? = some a /\ v = V.ref t /\ H' t = some (.tup [.str (dotted a), .ref (L i)]))
   (fun i v H' H'' ⟨a, t, e, ev, ht⟩ s => ⟨a, t, e, ev, s _ _ ht⟩) (le_trans (show _ <= 12 by omega) Z0) (SqL.of hla) ⟨_, rfl⟩ (fun i x τ H2 Q' hx s2 hS k => ?_) (fun ys H2 s2 hyl hys ls hls0 => ?_)⟩
  ·obtain ⟨u, rfl⟩ := hS
   obtain ⟨a, ha, rfl⟩ : ∃ a, as[i]? = some a /\ x = V.str (dotted a) := by
    rw [getElem?_map, getElem?_map] at hx
    cases e : as[i]? with
    | none => rw [e] at hx; cases hx
    | some a => rw [e] at hx; cases hx; exact ⟨a, rfl, rfl⟩
   have hi := (List.getElem?_eq_some_iff.mp ha).1
   exact ⟨_, rfl, _, rfl, _, rfl, R, _, rfl, (hd.same s2).get hi ha (az.refl _), by show 2 <= sizeLine; decide, fun t ht => k _ _ _ ⟨_, rfl⟩ (az.new ht) ⟨a, t, ha, rfl, ak⟩⟩
  have s3 : az H1 (upd H2 ls (.lst ys)) := s2.put hls0
  have hsE : lM (upd H2 ls (.lst ys)) ls (mkE as rs) := ⟨ys, ak, by rw [hyl, hml, qD], fun i e ei => by
   obtain ⟨e1, e2⟩ := uH ei
   have hi2 := (List.getElem?_eq_some_iff.mp e1).1
   have hi : i < ys.length := by omega
   obtain ⟨a, t, e3, e4, ht⟩ := hys i _ (getElem?_eq_getElem hi)
   rw [e1] at e3
   cases e3
   exact ⟨_, by rw [getElem?_eq_getElem hi, e4], t, L i, rfl, (az.new hls0) _ _ ht, by rw [e2]; exact (hd.ts i hi2).same s3⟩⟩
  generalize upd H2 ls (.lst ys) = H3 at s3 hsE
  refine ⟨_, rfl, _, rfl, H0, R, la, as, L, rs, rfl, s3 _ _ hla, g, hd.same s3, hok, fun dh H4 xs ps s34 hdh0 px hpl hps => ?_⟩
  obtain rfl : ps = (mkE as rs).map bh := by
   apply ext_getElem
   ·rw [hpl, length_map, qD]
   ·intro i h1 h2
    obtain ⟨k1, k2⟩ := hps i _ (getElem?_eq_getElem h1)
    have h3 : i < (mkE as rs).length := by simpa using h2
    obtain ⟨k3, k4⟩ := uH (getElem?_eq_getElem h3)
    rw [k1] at k3
    rw [List.getElem_map]
    generalize ps[i] = p at k1 k2 k3
    obtain ⟨pa, pr⟩ := p
    generalize (mkE as rs)[i] = e at k3 k4
    obtain ⟨ea, ed⟩ := e
    cases k3
    show aU.mk pa pr = ⟨pa, ed.map iz⟩
    rw [show pr = (rs i).map iz from k2, show ed = rs i from k4]
  have s35 : az H3 (upd H4 dh (.lst xs)) := s34.put hdh0
  have hdh : (upd H4 dh (.lst xs)) dh = some (.lst xs) := ak
  have px5 := px.same (az.new (o := .lst xs) hdh0)
  generalize upd H4 dh (.lst xs) = H5 at s35 hdh px5
  refine fun x dx hx hdx hne2 => ⟨x, dx, dh, _, xs, rfl, ak, (bu hx hdx) _ _ hdh, px5.same (bu hx hdx), le_trans gh.hi Z0, gh.ok, gh.nd, fun c i hdue => ?_⟩
  obtain ⟨rfl, rfl⟩ := ye hdue (Gj gh)
  refine ⟨fun _ lh H6 hlh sb hhd hlx => ⟨rfl, ?_⟩, fun z => absurd rfl z⟩
  have s56 : az H5 H6 := fun b o e => sb b o (bu hx hdx b o e) (aD e hx)
  have hh6 := lU hhd hlx (px5.same s56)
  have s36 := s35.trans s56
  have hS6 := ((s1.trans s3).trans s36).seq hS
  have hlw6 := (s3.trans s36) _ _ hlw
  have hsE6 := hsE.same s36
  clear hhd hlx sb hlh s56 px5 hdh s35 px hpl hps hdh0 s34 hsE hys hyl s3 s36 hdue hd hla hlw hpt
  refine ⟨_, rfl, Z0, Z0, ?_⟩
  refine oX (fun i σ H' => ∃ ls h v6 v7 v8 v9 v10 v11 v12 v13, σ = [some (.ref S), some (.ref lw), some (.ref la), some (.ref R), some (.ref ls), some (.ref h), v6, v7, v8, v9, v10, v11, v12, v13] /\ az H6 H' /\ ∃ l es, cC C H' h l (es.map bh) /\ bH (es.map bh) /\ lM H' ls es /\ (∀ e ∈ es, G3 e) /\ es ≠ [])
   ⟨ls, x, none, none, none, none, none, none, none, none, rfl, az.refl _, lh, mkE as rs, hh6, gh, hsE6, ga, hE0⟩ ?_ ?_
  ·rintro i σ H7 hi ⟨ls, h, v6, v7, v8, v9, v10, v11, v12, v13, rfl, s7, l, es, hh, hok, hs, hg, hne⟩
   have hi8 : (i : Int) < 8 := by omega
   refine ⟨_, rfl, _, rfl, _, _, rfl, rfl, (by show (0 : Int) < 3; decide), _, _, rfl, rfl, S, ns, 3 + (0 + (i : Int)) % 3, rfl, s7.seq hS6, Z1, fun H8 s8 => ⟨_, rfl, _, _, rfl, rfl, ⟨Z0, Z0⟩, _, _, rfl, rfl, _, 1 + (0 + (i : Int)) / 3, rfl, Z1, Z1, fun H9 s9 => ?_⟩⟩
   generalize sub _ _ = c
   have s79 := s8.trans s9
   have hs9 := hs.same s79
   have s69 := s7.trans s79
   have h12 : es.length <= 12 := by have := hok.hi; rwa [length_map] at this
   refine ⟨_, rfl, _, rfl, _, rfl, ls, lw, c, es, ws, rfl, hs9, hne, hok, hg, s69 _ _ hlw6, hw8, hwn, fun p H10 n s10 tn gn => ?_⟩
   obtain ⟨pp, nb, ep, hp, hnb⟩ := id tn
   cases ep
   obtain ⟨xs, hls, tx⟩ := id hs
   have hxl := tx.1
   have hx12 : xs.length <= sizeLine := le_trans (show xs.length <= 12 by omega) Z0
   have hlen0 : 0 < (xs.length : Int) := by have := length_pos_iff.mpr hne; omega
   obtain ⟨e2, t2, he2, eat2, b2, ht2⟩ := zV (c := c) (k := 6) tx hne
   obtain ⟨z, hz, eaz⟩ := cu (zs := [dotted n.ad, dotted e2.ad]) (c := c) (k := 7) Z2
   have s710 := s79.trans s10
   refine ⟨_, rfl, p, _, _, _, rfl, rfl, SqT.of hp, aF (j := 0) rfl, _, rfl, _, rfl, _, rfl, ls, _, rfl, .inl (SqL.of (s710 _ _ hls)), c, 6, (xs.length : Int), rfl, Z0, Z0, hlen0, fun H11 s11 => ⟨ls, _, _, _, rfl, rfl, SqL.of ((s710.trans s11) _ _ hls), eat2, t2, _, _, _, rfl, rfl, SqT.of ((s710.trans s11) _ _ ht2), aF (j := 0) rfl, by show 2 <= sizeLine; decide, fun gl hgl => ?_⟩⟩
   refine ⟨_, rfl, c, 7, 2, rfl, Z0, Z0, Z0, fun H12 s12 => ⟨gl, _, _, _, rfl, rfl, SqL.of (s12 _ _ ak), eaz, ?_⟩⟩
   have s1012 : az H10 H12 := (s11.put hgl).trans s12
   have hz36 : z.length <= 36 := by
    rcases mem_cons.mp hz with rfl | hz
    ·exact gn.ad.len
    ·rw [mem_singleton.mp hz]; exact (hg e2 he2).ad.len
   have s712 := s710.trans s1012
   refine ⟨_, rfl, _, rfl, ls, es, z, rfl, hs.same s712, le_trans h12 Z0, hg, fun r0 p10 H13 hr0 s13 Ei => ?_⟩
   refine ⟨_, rfl, c, 8, 3, rfl, Z0, Z0, Z0, fun H14 s14 => ⟨_, _, rfl, rfl, _, rfl, ?_⟩⟩
   have s714 := s712.trans (s13.trans s14)
   have s1014 := s1012.trans (s13.trans s14)
   clear eaz hz eat2 s11 s12 s13 hgl
   apply Ml (P := fun (w11 : Option V) (p10 : Addr) (v12 : V) (q13 : Addr) (H' : Hp) => ∃ r es', az H14 H' /\ FP H' p10 es' r /\ Ho C H' v12 q13 r /\ MK r /\ OkE r es')
   intro tail
   refine d7 (fun _ => ?w1) (fun _ => ?w2)
   case w2 =>
    refine ⟨_, rfl, _, rfl, h, l, es.map bh, .non, .str z, IsO (es.map bh) z, rfl, hh.same s714, hok, .inr ⟨rfl, z, rfl, Z1, rfl⟩, fun r p1 v q13 H15 hr s15 hp1 ho => ?_⟩
    obtain rfl := J5 hr0 hr
    refine ⟨p1, _, rfl, SqT.of hp1, rfl, _, _, rfl, _, _, rfl, rfl, ?_⟩
    have du := (Ei.same s14).same s15
    generalize v11 = u11
    generalize p10 = u10 at du ⊢
    refine tail u11 u10 v q13 H15 ⟨r0, Dp es z, s15, du, ho, Mm hr0, fun ps e => ?_⟩
    subst e
    rcases hr0 with ⟨_, e⟩ | ⟨_, _, e⟩ | ⟨_, hk, e⟩
    ·cases e
    ·cases e
    ·cases e
     rw [J7]
     exact ⟨rfl, vm hok hk, fun e he => hg e (mem_filter.mp he).1⟩
   case w1 =>
    have hls14 := s714 _ _ hls
    have hp14 := s1014 _ _ hp
    have tn14 := tn.same s1014
    have ft : ∀ {j : Nat} {x : V}, xs[j]? = some x -> ∃ e t, es[j]? = some e /\ x = .ref t /\ qY H7 (.ref t) e /\ (if (adE es).getD j "" = dotted n.ad then V.ref p else xs.getD j .non) = if dotted e.ad = dotted n.ad then V.ref p else V.ref t := fun {j x} hx => by
     obtain ⟨e, ed, t, bb, rfl, ht, hbb⟩ := tx.at hx
     refine ⟨e, t, ed, rfl, ⟨t, bb, rfl, ht, hbb⟩, ?_⟩
     have ej : (adE es).getD j "" = dotted e.ad := by rw [getD_eq_getElem?_getD, getElem?_map, ed]; rfl
     have ex : xs.getD j .non = .ref t := by rw [getD_eq_getElem?_getD, hx]; rfl
     rw [ej, ex]
    refine ⟨_, rfl, ls, rfl, ⟨_, SqL.of hls14⟩, bB (fun j => if (adE es).getD j "" = dotted n.ad then V.ref p else xs.getD j .non) hx12 (SqL.of hls14) (fun j x H' Q' hx sm k => ?_) (fun H15 s15 lc hlc => ?_)⟩
    ·obtain ⟨e, t, ed, rfl, ⟨_, bb, et, ht, hbb⟩, ef⟩ := ft hx
     cases et
     simp only [ef] at k
     have eat : atI [V.ref t, V.ref p] (if decide (V.str (dotted e.ad) = V.str (dotted n.ad)) = true then 1 else 0) = some (if dotted e.ad = dotted n.ad then V.ref p else V.ref t) := by
      by_cases he : dotted e.ad = dotted n.ad
      ·rw [if_pos he, decide_eq_true (congrArg V.str he), if_pos rfl]; exact aF (j := 1) rfl
      ·rw [if_neg he, decide_eq_false (fun z => he (V.str.inj z)), if_neg Z0]; exact aF (j := 0) rfl
     exact ⟨_, rfl, _, rfl, by show 2 <= sizeLine; decide, fun o ho => ⟨_, rfl, t, _, _, _, rfl, rfl, SqT.of (((s714.trans sm).put ho) _ _ ht), aF (j := 0) rfl, _, rfl, p, _, _, _, rfl, rfl, SqT.of ((sm.put ho) _ _ hp14), aF (j := 0) rfl, rfl, .inr ⟨_, rfl, o, _, _, _, rfl, rfl, SqL.of ak, eat, k _ (az.new ho)⟩⟩⟩
    have s16 : az H14 (upd H15 lc (.lst ((List.range xs.length).map fun j => if (adE es).getD j "" = dotted n.ad then V.ref p else xs.getD j .non))) := s15.put hlc
    have hlc16 : (upd H15 lc (.lst ((List.range xs.length).map fun j => if (adE es).getD j "" = dotted n.ad then V.ref p else xs.getD j .non))) lc = some (.lst ((List.range xs.length).map fun j => if (adE es).getD j "" = dotted n.ad then V.ref p else xs.getD j .non)) := ak
    generalize upd H15 lc (.lst ((List.range xs.length).map fun j => if (adE es).getD j "" = dotted n.ad then V.ref p else xs.getD j .non)) = H16 at s16 hlc16
    have s716 := s714.trans s16
    have yat : ∀ {j : Nat} {x y : V}, ((List.range xs.length).map fun j => if (adE es).getD j "" = dotted n.ad then V.ref p else xs.getD j .non)[j]? = some y -> xs[j]? = some x -> ∃ e t, es[j]? = some e /\ x = .ref t /\ qY H7 (.ref t) e /\ y = if dotted e.ad = dotted n.ad then V.ref p else V.ref t := fun {j x y} ey hx => by
     obtain ⟨e, t, ed, rfl, te, ef⟩ := ft hx
     have hj := (List.getElem?_eq_some_iff.mp hx).1
     rw [getElem?_map, List.getElem?_range hj] at ey
     exact ⟨e, t, ed, rfl, te, (Option.some.inj ey).symm.trans ef⟩
    have hyl : ((List.range xs.length).map fun j => if (adE es).getD j "" = dotted n.ad then V.ref p else xs.getD j .non).length = xs.length := by rw [length_map, length_range]
    generalize ((List.range xs.length).map fun j => if (adE es).getD j "" = dotted n.ad then V.ref p else xs.getD j .non) = ys at hlc16 yat hyl
    have tn16 := tn14.same s16
    have sE : dotted n.ad ∈ adE es -> lM H16 lc (sS es n) := fun hin => by
     have e0 : sS es n = es.map fun e => if dotted e.ad = dotted n.ad then n else e := if_pos hin
     rw [e0]
     refine ⟨ys, hlc16, by rw [hyl, hxl, length_map], fun j d ed => ?_⟩
     have hj : j < xs.length := by rw [hxl]; have := (List.getElem?_eq_some_iff.mp ed).1; rwa [length_map] at this
     obtain ⟨e, t, ee, ex, te, ey⟩ := yat (j := j) (getElem?_eq_getElem Z1) (getElem?_eq_getElem hj)
     rw [getElem?_map, ee] at ed
     cases ed
     refine ⟨_, getElem?_eq_getElem Z1, ?_⟩
     rw [ey]
     show qY H16 _ (if dotted e.ad = dotted n.ad then n else e)
     by_cases he : dotted e.ad = dotted n.ad
     ·rw [if_pos he, if_pos he]; exact tn16
     ·rw [if_neg he, if_neg he]; exact te.same s716
    have s1016 := s1014.trans s16
    apply N7 (P := fun (lc' : Addr) (H' : Hp) => az H16 H' /\ lM H' lc' (sS es n))
    ·intro rest
     refine ⟨_, rfl, _, rfl, lc, ls, ys, xs, 3, rfl, rfl, SqL.of hlc16, SqL.of (s716 _ _ hls), Z0, fun j x y ex ey => ?_, fun b hb => ⟨_, rfl, ?_⟩⟩
     ·obtain ⟨e, t, ee, rfl, te, rfl⟩ := yat ex ey
      split
      ·exact Dm tn16 (te.same s716)
      ·exact Dm (te.same s716) (te.same s716)
     by_cases hin : dotted n.ad ∈ adE es
     ·cases b with
      | true =>
      refine bR rfl ⟨_, rfl, p, _, _, _, rfl, rfl, SqT.of (s1016 _ _ hp), aF (j := 0) rfl, _, rfl, ls, rfl, ⟨_, SqL.of (s716 _ _ hls)⟩, bB (fun i => ((adE es).map V.str).getD i .non) hx12 (SqL.of (s716 _ _ hls)) (fun i x H' Q' hx sm k => by
       obtain ⟨e, ed, t, bb, rfl, ht, hbb⟩ := tx.at hx
       have k2 := k H' (az.refl _)
       rw [uA ed] at k2
       exact ⟨_, rfl, t, _, _, _, rfl, rfl, SqT.of ((s716.trans sm) _ _ ht), aF (j := 0) rfl, k2⟩) (fun H17 s17 b17 hb17 => ?_)⟩
      rw [nM hxl]
      have s18 : az H16 (upd H17 b17 (.lst ((adE es).map V.str))) := s17.put hb17
      refine ⟨b17, _, rfl, .inl (SqL.of ak), rfl, cG _, _, rfl, aV (by rw [eG, decide_eq_true hin]; rfl) ?_⟩
      have se := (sE hin).same s18
      generalize upd H17 b17 (.lst ((adE es).map V.str)) = H18 at s18 se ⊢
      generalize lc = lc1 at se ⊢
      exact rest lc1 H18 ⟨s18, se⟩
      | false => exact aV rfl (iR (rest lc H16 ⟨az.refl _, sE hin⟩))
     ·have exy : ys = xs := by
       apply ext_getElem hyl
       intro j h1 h2
       obtain ⟨e, t, ee, ex, _, ey⟩ := yat (getElem?_eq_getElem h1) (getElem?_eq_getElem h2)
       have hne3 : ¬ dotted e.ad = dotted n.ad := fun z => hin (z ▸ mem_map.mpr ⟨e, mem_of_getElem? ee, rfl⟩)
       rw [ey, ex, if_neg hne3]
      obtain rfl := hb ⟨exy, fun v hv => by
       rw [exy] at hv
       obtain ⟨j, hj, e⟩ := getElem_of_mem hv
       obtain ⟨_, _, t, _, ev, _⟩ := tx.at (getElem?_eq_getElem hj)
       exact ⟨t, by rw [<- e, ev]⟩⟩
      refine bR rfl ⟨_, rfl, p, _, _, _, rfl, rfl, SqT.of (s1016 _ _ hp), aF (j := 0) rfl, _, rfl, ls, rfl, ⟨_, SqL.of (s716 _ _ hls)⟩, bB (fun i => ((adE es).map V.str).getD i .non) hx12 (SqL.of (s716 _ _ hls)) (fun i x H' Q' hx sm k => by
       obtain ⟨e, ed, t, bb, rfl, ht, hbb⟩ := tx.at hx
       have k2 := k H' (az.refl _)
       rw [uA ed] at k2
       exact ⟨_, rfl, t, _, _, _, rfl, rfl, SqT.of ((s716.trans sm) _ _ ht), aF (j := 0) rfl, k2⟩) (fun H17 s17 b17 hb17 => ?_)⟩
      rw [nM hxl]
      have s18 : az H16 (upd H17 b17 (.lst ((adE es).map V.str))) := s17.put hb17
      refine ⟨b17, _, rfl, .inl (SqL.of ak), rfl, cG _, _, rfl, bR (by rw [eG, decide_eq_false hin]; rfl) ?_⟩
      generalize upd H17 b17 (.lst ((adE es).map V.str)) = H18 at s18
      refine ⟨_, rfl, _, rfl, by show 1 <= sizeLine; decide, fun o ho => ?_⟩
      have s19 := s18.put (o := .lst [V.ref p]) ho
      refine ⟨ls, o, xs, [V.ref p], rfl, rfl, (s716.trans s19) _ _ hls, ak, le_trans (show xs.length + 1 <= 13 by omega) Z0, fun lc2 hlc2 => rest lc2 _ ⟨s19.put hlc2, ?_⟩⟩
      have e0 : sS es n = es ++ [n] := if_neg hin
      rw [e0]
      refine ⟨_, ak, by rw [length_append, length_append, hxl]; rfl, fun j d ed => ?_⟩
      rcases lt_or_ge j es.length with u | u
      ·rw [getElem?_append_left u] at ed
       obtain ⟨v, e1, te⟩ := tx.2 j d ed
       exact ⟨v, by rw [getElem?_append_left Z1]; exact e1, te.same (s716.trans (s19.put hlc2))⟩
      ·rw [getElem?_append_right u] at ed
       have hj : j - es.length = 0 := by
        have := (List.getElem?_eq_some_iff.mp ed).1
        simp at this
        omega
       rw [hj] at ed
       cases ed
       exact ⟨_, by rw [getElem?_append_right Z1, hxl, hj]; rfl, tn16.same (s19.put hlc2)⟩
    ·rintro lc' H17 ⟨s17, se⟩
     have s1017 := s1016.trans s17
     refine ⟨_, rfl, lc', sS es n, rfl, se, le_trans (Io es n) Z1, Gm hg gn, fun r p10' H18 hr s18 du => ?_⟩
     rw [Gs] at hr
     refine ⟨_, rfl, _, rfl, h, l, es.map bh, .ref p, .str "", IsW (es.map bh) (bh n), rfl, hh.same (s716.trans (s17.trans s18)), hok, .inl ⟨n, tn.same (s1017.trans s18), gn, rfl⟩, fun r' p1 v q13 H19 hr' s19 hp1 ho => ?_⟩
     obtain rfl := J4 hr hr'
     refine ⟨p1, _, rfl, SqT.of hp1, rfl, _, _, rfl, _, _, rfl, rfl, tail (some (.ref lc')) p10' v q13 H19 ⟨r, sS es n, s16.trans (s17.trans (s18.trans s19)), du.same s19, ho, M7 hr, fun ps e => ?_⟩⟩
     subst e
     rw [Gs]
     exact ⟨Hs hr, by have := Hs hr; subst this; exact HS hok gn.good hr, Gm hg gn⟩
   case k =>
    rintro w11 p10 v12 q13 H' ⟨r, es', s', du, oth, hno, hokE⟩
    have s7' := s714.trans s'
    cases r with
    | no k v =>
     obtain ⟨rfl, hq⟩ := oth
     have du : H' p10 = some (.tup [.str (kW k), v]) := du
     obtain ⟨fv, kne⟩ := hno k v rfl
     have fl : ∀ u ∈ [V.str (kW k), v], dM u = true \/ ∃ p, u = .ref p := fun u hu => by
      rcases mem_cons.mp hu with rfl | hu
      ·exact .inl rfl
      ·rw [mem_singleton.mp hu]; exact .inl fv
     refine ⟨_, rfl, q13, _, _, _, rfl, rfl, SqT.of hq, aF (j := 0) rfl, _, rfl, p10, _, _, _, rfl, rfl, SqT.of du, aF (j := 0) rfl, rfl, _, rfl, jh (decide_eq_true rfl) ?_⟩
     refine ⟨_, rfl, p10, _, _, _, rfl, rfl, SqT.of du, aF (j := 0) rfl, rfl, _, rfl, aV (decide_eq_false fun z => kne (V.str.inj z)) ?_⟩
     refine iR ?_
     refine ⟨_, rfl, p10, _, _, _, rfl, rfl, SqT.of du, aF (j := 0) rfl, rfl, _, rfl, nA (decide_eq_false fun z => kne (V.str.inj z)) ?_⟩
     refine ⟨_, rfl, _, rfl, q13, p10, rfl, rfl, Jy hq du fl, _, rfl, iR ?_⟩
     refine ⟨_, rfl, _, rfl, h, l, ls, es, rfl, hh.same s7', hok, hs.same s7', hg, fun H'' s'' => ⟨_, rfl, iR ?_⟩⟩
     refine ⟨_, rfl, rfl, _, rfl, jh (decide_eq_true rfl) (iR ?_)⟩
     refine ⟨_, rfl, rfl, _, rfl, jh (decide_eq_true rfl) (iR ?_)⟩
     refine ⟨_, rfl, rfl, _, rfl, jh (decide_eq_true rfl) (iR ?_)⟩
     exact ⟨ls, h, _, _, _, _, _, _, _, _, rfl, s7.trans (s7'.trans s''), l, es, hh.same (s7'.trans s''), hok, hs.same (s7'.trans s''), hg, hne⟩
    | ok ps =>
     obtain ⟨h', l', lt, rfl, hq, hlt, hh'⟩ := oth
     obtain ⟨b', hdu, hs'⟩ := du
     obtain ⟨rfl, hok', hg'⟩ := hokE ps rfl
     refine ⟨_, rfl, q13, _, _, _, rfl, rfl, SqT.of hq, aF (j := 0) rfl, _, rfl, p10, _, _, _, rfl, rfl, SqT.of hdu, aF (j := 0) rfl, rfl, _, rfl, jh (decide_eq_true rfl) ?_⟩
     refine ⟨_, rfl, p10, _, _, _, rfl, rfl, SqT.of hdu, aF (j := 0) rfl, rfl, _, rfl, bR (decide_eq_true rfl) ?_⟩
     have h12' : es'.length <= 12 := by have := hok'.hi; rwa [length_map] at this
     refine ⟨_, rfl, q13, _, _, _, rfl, rfl, SqT.of hq, aF (j := 1) rfl, _, rfl, p10, _, _, _, rfl, rfl, SqT.of hdu, aF (j := 1) rfl, b', es', rfl, hs', le_trans h12' Z0, hg', fun b3 H2 _ s2 hb3 => ⟨lt, b3, rfl, rfl, qR (s2 _ _ hlt) hb3 (oY _), _, rfl, iR ?_⟩⟩
     have s72 := s7'.trans s2
     refine ⟨_, rfl, p10, _, _, _, rfl, rfl, SqT.of (s2 _ _ hdu), aF (j := 0) rfl, rfl, _, rfl, jh (decide_eq_true rfl) (iR ?_)⟩
     refine ⟨_, rfl, _, rfl, h, l, ls, es, rfl, hh.same s72, hok, hs.same s72, hg, fun H3 s3 => ⟨_, rfl, iR ?_⟩⟩
     have s23 := s2.trans s3
     refine ⟨_, rfl, rfl, _, rfl, nA (decide_eq_false Z7) ?_⟩
     refine ⟨_, rfl, _, rfl, p10, _, _, _, rfl, rfl, SqT.of (s23 _ _ hdu), aF (j := 1) rfl, h', l', b', es', rfl, hh'.same s23, hok', hs'.same s23, hg', fun H4 s4 => ⟨_, rfl, iR ?_⟩⟩
     have s24 := s23.trans s4
     obtain ⟨xs', hb', tx'⟩ := id hs'
     have hxl' := tx'.1
     obtain ⟨dx', fs', ea', _, _, a3', _, _⟩ := id hh'
     refine ⟨_, rfl, rfl, _, rfl, nA (decide_eq_false Z7) ?_⟩
     refine ⟨_, rfl, _, rfl, p10, _, _, _, rfl, rfl, SqT.of (s24 _ _ hdu), aF (j := 1) rfl, b', rfl, ⟨_, SqL.of (s24 _ _ hb')⟩, bB (fun i => ((adE es').map V.str).getD i .non) (le_trans (show xs'.length <= 12 by omega) Z0) (SqL.of (s24 _ _ hb')) (fun i x H5 Q' hx sm k => ?_) (fun H5 s5 b5 hb5 => ?_)⟩
     ·obtain ⟨e, ed, t, bb, rfl, ht, hbb⟩ := tx'.at hx
      have k2 := k H5 (az.refl _)
      rw [uA ed] at k2
      exact ⟨_, rfl, t, _, _, _, rfl, rfl, SqT.of ((s24.trans sm) _ _ ht), aF (j := 0) rfl, k2⟩
     rw [nM hxl']
     have s25 : az H' (upd H5 b5 (.lst ((adE es').map V.str))) := (s24.trans s5).put hb5
     refine ⟨b5, _, rfl, .inl (SqL.of ak), rfl, cG _, _, rfl, ?_⟩
     generalize upd H5 b5 (.lst ((adE es').map V.str)) = H6 at s25
     by_cases hin : z ∈ adE es'
     ·refine aV (by rw [eG, decide_eq_true hin]; rfl) (iR ?_)
      refine ⟨_, rfl, rfl, _, rfl, nA (decide_eq_false Z7) ?_⟩
      refine ⟨_, rfl, p10, _, _, _, rfl, rfl, SqT.of (s25 _ _ hdu), aF (j := 1) rfl, b', _, rfl, .inl (SqL.of (s25 _ _ hb')), _, _, rfl, rfl, _, rfl, d7 (fun hpos => ?_) (fun hneg => ?_)⟩
      ·exact ⟨_, rfl, _, rfl, p10, _, _, _, rfl, rfl, SqT.of (s25 _ _ hdu), aF (j := 1) rfl, b', h', _, _, _, _, _, _, _, _, rfl, s7.trans (s7'.trans s25), l', es', hh'.same s25, hok', hs'.same s25, hg', fun u => by rw [u] at tx'; have := tx'.1; rw [this] at hpos; exact absurd hpos Z0⟩
      ·exact ⟨ls, h, _, _, _, _, _, _, _, _, rfl, s7.trans (s7'.trans s25), l, es, hh.same (s7'.trans s25), hok, hs.same (s7'.trans s25), hg, hne⟩
     ·refine bR (by rw [eG, decide_eq_false hin]; rfl) ?_
      refine ⟨_, rfl, h', dx', fs', rfl, s25 _ _ ea', a3', _, rfl, h', l', _, z, rfl, hh'.same s25, hok', fun H7' s27 => ⟨_, false, rfl, rfl, _, rfl, aV (by rw [decide_eq_false (fun u => hin (ug es' ▸ u))]; rfl) ?_⟩⟩
      have s28 := s25.trans s27
      refine ⟨_, rfl, rfl, _, rfl, nA (decide_eq_false Z7) ?_⟩
      refine ⟨_, rfl, p10, _, _, _, rfl, rfl, SqT.of (s28 _ _ hdu), aF (j := 1) rfl, b', _, rfl, .inl (SqL.of (s28 _ _ hb')), _, _, rfl, rfl, _, rfl, d7 (fun hpos => ?_) (fun hneg => ?_)⟩
      ·exact ⟨_, rfl, _, rfl, p10, _, _, _, rfl, rfl, SqT.of (s28 _ _ hdu), aF (j := 1) rfl, b', h', _, _, _, _, _, _, _, _, rfl, s7.trans (s7'.trans s28), l', es', hh'.same s28, hok', hs'.same s28, hg', fun u => by rw [u] at tx'; have := tx'.1; rw [this] at hpos; exact absurd hpos Z0⟩
      ·exact ⟨ls, h, _, _, _, _, _, _, _, _, rfl, s7.trans (s7'.trans s28), l, es, hh.same (s7'.trans s28), hok, hs.same (s7'.trans s28), hg, hne⟩
  ·rintro σ H7 ⟨ls, h, v6, v7, v8, v9, v10, v11, v12, v13, rfl, s7, _⟩
   exact q _
end
def FI (K : Frag) (x : Str) (st : Stmt) : Prop := ∃ f fd, nsIn K mainGlobals x = some (some (.ref f)) /\ Fun K x x st f fd
theorem fi {K : Frag} {x : Str} {st : Stmt} {f : Addr} {oc : Value} {od an : Option Addr} {osl : Array (Option Value)} {kV doc pm cdv ct : Value} (a : nsIn K mainGlobals x = some (some (.ref f))) (l : K.lookup f = some ⟨oc, od, .func (fnOf x x (dC st) (bZ st) (aB st) .none kV doc pm an cdv ct), osl⟩) (c : codeIn K cdv x = true) (k : keepIn K (.ref f) = true) : FI K x st := ⟨f, _, a, FZ l c k⟩
def MI (K : Frag) (g : Addr) (x q : Str) (st : Stmt) : Prop := (∃ fd, Fun K x q st g fd) /\ isFn K (.ref g) = true /\ keepIn K (.ref g) = true
theorem mi {K : Frag} {x q : Str} {st : Stmt} {f : Addr} {oc : Value} {od an : Option Addr} {osl : Array (Option Value)} {kV doc pm cdv ct : Value} (l : K.lookup f = some ⟨oc, od, .func (fnOf x q (dC st) (bZ st) (aB st) .none kV doc pm an cdv ct), osl⟩) (c : codeIn K cdv q = true) (k : keepIn K (.ref f) = true) (i : isFn K (.ref f) = true) : MI K f x q st := ⟨⟨_, FZ l c k⟩, i, k⟩
structure CI (K : Frag) (C : Addr) (x : Str) : Prop where
 A : nsIn K mainGlobals x = some (some (.ref C))
 pg : plainGet K C Str.empty = true
 hd : hasDictIn K C = true
 po : plainOver K C = true
 sa : findIn K (.ref C) "__setattr__" = some (some (.builtin "object.__setattr__"))
 mq : makesIn K C = true
 kc : keepIn K (.ref C) = true
 ca : findIn K (.ref C) "__class__" = some (some (.builtin "object.__class__"))
 mo : mroIn K C (.type "object") = some true
 ty : typeIn K (.ref C) = some (.type "type")
 mm : mroIn K C (.ref C) = some true
def BA (x q : Str) (st : Stmt) (ps : List Str) (n : Nat) : Prop := ∀ (kV doc pm : Value) (an : Option Addr) (cdv ct : Value) (us : List Value), us.length = n -> bindArgs (fnOf x q (dC st) (bZ st) (aB st) .none kV doc pm an cdv ct) ⟨us, []⟩ = pure (ps.zip us)
theorem ba1 {x q : Str} {st : Stmt} {ps : List Str} (h : ∀ (kV doc pm : Value) (an : Option Addr) (cdv ct a : Value), bindArgs (fnOf x q (dC st) (bZ st) (aB st) .none kV doc pm an cdv ct) ⟨[a], []⟩ = pure (ps.zip [a]) := by exact fun _ _ _ _ _ _ _ => rfl) : BA x q st ps 1 := fun _ _ _ _ _ _ us hl => by obtain ⟨a, rfl⟩ := Og hl; exact h ..
theorem ba2 {x q : Str} {st : Stmt} {ps : List Str} (h : ∀ (kV doc pm : Value) (an : Option Addr) (cdv ct a b : Value), bindArgs (fnOf x q (dC st) (bZ st) (aB st) .none kV doc pm an cdv ct) ⟨[a, b], []⟩ = pure (ps.zip [a, b]) := by exact fun _ _ _ _ _ _ _ _ => rfl) : BA x q st ps 2 := fun _ _ _ _ _ _ us hl => by obtain ⟨a, b, rfl⟩ := Pk hl; exact h ..
theorem ba3 {x q : Str} {st : Stmt} {ps : List Str} (h : ∀ (kV doc pm : Value) (an : Option Addr) (cdv ct a b c : Value), bindArgs (fnOf x q (dC st) (bZ st) (aB st) .none kV doc pm an cdv ct) ⟨[a, b, c], []⟩ = pure (ps.zip [a, b, c]) := by exact fun _ _ _ _ _ _ _ _ _ => rfl) : BA x q st ps 3 := fun _ _ _ _ _ _ us hl => by obtain ⟨a, b, c, rfl⟩ := Qu hl; exact h ..
theorem ba4 {x q : Str} {st : Stmt} {ps : List Str} (h : ∀ (kV doc pm : Value) (an : Option Addr) (cdv ct a b c d : Value), bindArgs (fnOf x q (dC st) (bZ st) (aB st) .none kV doc pm an cdv ct) ⟨[a, b, c, d], []⟩ = pure (ps.zip [a, b, c, d]) := by exact fun _ _ _ _ _ _ _ _ _ _ => rfl) : BA x q st ps 4 := fun _ _ _ _ _ _ us hl => by obtain ⟨a, b, c, d, rfl⟩ := Rc hl; exact h ..
theorem fat {K : Frag} {h : Heap} {mg : MG} {x : Str} {st : Stmt} {ps : List Str} (X : K.In h) (G : h.Ns mainGlobals mg) (b : BA x x st ps ps.length) (i : FI K x st) : ∃ f fd, FnAt K mg x st ps f fd := by
 obtain ⟨f, fd, a, F⟩ := i
 exact ⟨f, fd, F, F.binds b, mg_of X G a⟩
theorem eO {K : Frag} {g : Addr} {x q : Str} {st : Stmt} {ps : List Str} {p : Addr -> Prop} (b : BA x q st ps ps.length) (i : MI K g x q st) (z : isFn K (.ref g) = true -> keepIn K (.ref g) = true -> p g) : ∃ f fd, MAt K x q st ps f fd /\ p f := by
 obtain ⟨⟨fd, F⟩, i1, i2⟩ := i
 exact ⟨g, fd, ⟨F, F.binds b⟩, z i1 i2⟩
theorem Nq {l : OpenLaw} {w : World} {K : Frag} {h : Heap} {mg : MG} {fa g0 g1 g2 g3 g4 g5 g6 g7 g8 g9 g10 g11 g12 g13 g14 g15 g16 g17 g18 g19 g20 g21 g22 g23 g24 g25 g26 g27 g28 g29 g30 g31 C0 C1 C2 C3 C4 C5 C6 C7 C8 gx21 gx22 gx24 gx25 gx26 C20 C21 C22 C23 C24 C25 C26 N20 : Addr} (X : K.In h) (G : h.Ns mainGlobals mg) (hfa : mg "law" = some (.ref fa))
  {nm20 qn20 : Str} {bs20 sub20 : List Value} {sn20 : List Str} {ab20 : Bool} {col20 : Option Bool} {dd20 : Option Addr} {x020 x120 x220 x320 x520 : Option Value} {oN : Value} {dN : Option Addr} {esN : Array DictEntry} {nN : Nat} {slN : Array (Option Value)}
  {tk0 : Tok}
  (h0 : FI K "show_term" jE)
  (h1 : FI K "show_expr" kj)
  (h2 : FI K "prefixes" mV)
  (h3 : FI K "parent_of" jG)
  (h4 : FI K "named_by" lX)
  (h5 : FI K "links" t6)
  (h6 : FI K "is_orphan" jZ)
  (h7 : FI K "is_clash" lV)
  (h8 : FI K "check_parts" gU)
  (h9 : FI K "_law_cell" m9)
  (h10 : FI K "_law_sub" o8)
  (h11 : FI K "_law_pick" mZ)
  (h12 : FI K "_law_words" jz)
  (h13 : FI K "_law_addresses" eY)
  (h14 : FI K "_law_prefixes" fU)
  (h15 : FI K "_law_asked" jF)
  (h16 : FI K "_law_drawn" jN)
  (h17 : FI K "_law_rows" nD)
  (h18 : FI K "_law_row" o6)
  (h19 : FI K "_law_parts" ju)
  (h20 : FI K "_law_made" mX)
  (h21 : FI K "_law_names" jP)
  (h22 : FI K "_law_due" o5)
  (h23 : FI K "_law_less" lW)
  (h24 : FI K "_law_word" mQ)
  (h25 : FI K "_law_said" mG)
  (h26 : FI K "_law_does" nj)
  (h27 : FI K "_law_other" jR)
  (h28 : FI K "_law_links" jY)
  (h29 : FI K "_law_stands" iY)
  (h30 : FI K "law" Gk)
  (D0 : CI K C0 "Let")
  (D1 : CI K C1 "Deed")
  (D2 : CI K C2 "Draw")
  (D3 : CI K C3 "Late")
  (D4 : CI K C4 "Take")
  (D5 : CI K C5 "Need")
  (D6 : CI K C6 "Row")
  (D7 : CI K C7 "Part")
  (D8 : CI K C8 "House")
  (nf0x0 : findIn K (.ref C0) "name" = some none)
  (nf0x1 : findIn K (.ref C0) "terms" = some none)
  (nf0x2 : findIn K (.ref C0) "address" = some none)
  (nf0x3 : findIn K (.ref C0) "word" = some none)
  (mm0x1 : mroIn K C0 (.ref C1) = some false)
  (mm0x2 : mroIn K C0 (.ref C2) = some false)
  (mm0x3 : mroIn K C0 (.ref C3) = some false)
  (mm0x4 : mroIn K C0 (.ref C4) = some false)
  (mm0x5 : mroIn K C0 (.ref C5) = some false)
  (mm0x6 : mroIn K C0 (.ref C6) = some true)
  (nf1x0 : findIn K (.ref C1) "name" = some none)
  (nf1x1 : findIn K (.ref C1) "terms" = some none)
  (nf1x2 : findIn K (.ref C1) "address" = some none)
  (nf1x3 : findIn K (.ref C1) "word" = some none)
  (mm1x0 : mroIn K C1 (.ref C0) = some false)
  (mm1x2 : mroIn K C1 (.ref C2) = some false)
  (mm1x3 : mroIn K C1 (.ref C3) = some false)
  (mm1x4 : mroIn K C1 (.ref C4) = some false)
  (mm1x5 : mroIn K C1 (.ref C5) = some false)
  (mm1x6 : mroIn K C1 (.ref C6) = some true)
  (nf2x0 : findIn K (.ref C2) "name" = some none)
  (nf2x1 : findIn K (.ref C2) "terms" = some none)
  (nf2x2 : findIn K (.ref C2) "address" = some none)
  (nf2x3 : findIn K (.ref C2) "word" = some none)
  (mm2x0 : mroIn K C2 (.ref C0) = some false)
  (mm2x1 : mroIn K C2 (.ref C1) = some false)
  (mm2x3 : mroIn K C2 (.ref C3) = some false)
  (mm2x4 : mroIn K C2 (.ref C4) = some false)
  (mm2x5 : mroIn K C2 (.ref C5) = some false)
  (mm2x6 : mroIn K C2 (.ref C6) = some true)
  (nf3x0 : findIn K (.ref C3) "name" = some none)
  (nf3x1 : findIn K (.ref C3) "terms" = some none)
  (nf3x2 : findIn K (.ref C3) "address" = some none)
  (nf3x3 : findIn K (.ref C3) "word" = some none)
  (mm3x0 : mroIn K C3 (.ref C0) = some false)
  (mm3x1 : mroIn K C3 (.ref C1) = some false)
  (mm3x2 : mroIn K C3 (.ref C2) = some false)
  (mm3x4 : mroIn K C3 (.ref C4) = some false)
  (mm3x5 : mroIn K C3 (.ref C5) = some false)
  (mm3x6 : mroIn K C3 (.ref C6) = some true)
  (nf4x0 : findIn K (.ref C4) "name" = some none)
  (nf4x1 : findIn K (.ref C4) "terms" = some none)
  (nf4x2 : findIn K (.ref C4) "address" = some none)
  (nf4x3 : findIn K (.ref C4) "word" = some none)
  (mm4x0 : mroIn K C4 (.ref C0) = some false)
  (mm4x1 : mroIn K C4 (.ref C1) = some false)
  (mm4x2 : mroIn K C4 (.ref C2) = some false)
  (mm4x3 : mroIn K C4 (.ref C3) = some false)
  (mm4x5 : mroIn K C4 (.ref C5) = some false)
  (mm4x6 : mroIn K C4 (.ref C6) = some true)
  (nf5x0 : findIn K (.ref C5) "name" = some none)
  (nf5x1 : findIn K (.ref C5) "terms" = some none)
  (nf5x2 : findIn K (.ref C5) "address" = some none)
  (nf5x3 : findIn K (.ref C5) "word" = some none)
  (mm5x0 : mroIn K C5 (.ref C0) = some false)
  (mm5x1 : mroIn K C5 (.ref C1) = some false)
  (mm5x2 : mroIn K C5 (.ref C2) = some false)
  (mm5x3 : mroIn K C5 (.ref C3) = some false)
  (mm5x4 : mroIn K C5 (.ref C4) = some false)
  (mm5x6 : mroIn K C5 (.ref C6) = some true)
  (nf6x0 : findIn K (.ref C6) "name" = some none)
  (nf6x1 : findIn K (.ref C6) "terms" = some none)
  (nf6x2 : findIn K (.ref C6) "address" = some none)
  (nf6x3 : findIn K (.ref C6) "word" = some none)
  (mm6x0 : mroIn K C6 (.ref C0) = some false)
  (mm6x1 : mroIn K C6 (.ref C1) = some false)
  (mm6x2 : mroIn K C6 (.ref C2) = some false)
  (mm6x3 : mroIn K C6 (.ref C3) = some false)
  (mm6x4 : mroIn K C6 (.ref C4) = some false)
  (mm6x5 : mroIn K C6 (.ref C5) = some false)
  (nf7x0 : findIn K (.ref C7) "address" = some none)
  (nf7x1 : findIn K (.ref C7) "rows" = some none)
  (nf8x0 : findIn K (.ref C8) "told" = some none)
  (u0x8 : findIn K (.ref C8) "__init__" = some (some (.ref g0)))
  (j0 : MI K g0 "__init__" "House.__init__" cT)
  (u1x8 : findIn K (.ref C8) "addresses" = some (some (.ref g1)))
  (j1 : MI K g1 "addresses" "House.addresses" cA)
  (u2x8 : findIn K (.ref C8) "has" = some (some (.ref g2)))
  (j2 : MI K g2 "has" "House.has" gP)
  (u3x8 : findIn K (.ref C8) "part" = some (some (.ref g3)))
  (j3 : MI K g3 "part" "House.part" fQ)
  (u4x8 : findIn K (.ref C8) "with_part" = some (some (.ref g4)))
  (j4 : MI K g4 "with_part" "House.with_part" cB)
  (u5x8 : findIn K (.ref C8) "without" = some (some (.ref g5)))
  (j5 : MI K g5 "without" "House.without" dm)
  (u6x5 : findIn K (.ref C5) "binds" = some (some (.ref g6)))
  (u6x6 : findIn K (.ref C6) "binds" = some (some (.ref g6)))
  (j6 : MI K g6 "binds" "Row.binds" gJ)
  (u7x0 : findIn K (.ref C0) "asked" = some (some (.ref g7)))
  (u7x1 : findIn K (.ref C1) "asked" = some (some (.ref g7)))
  (u7x5 : findIn K (.ref C5) "asked" = some (some (.ref g7)))
  (u7x6 : findIn K (.ref C6) "asked" = some (some (.ref g7)))
  (j7 : MI K g7 "asked" "Row.asked" ik)
  (u8x6 : findIn K (.ref C6) "said" = some (some (.ref g8)))
  (j8 : MI K g8 "said" "Row.said" qP)
  (u9x0 : findIn K (.ref C0) "__init__" = some (some (.ref g9)))
  (j9 : MI K g9 "__init__" "Let.__init__" dY)
  (u10x0 : findIn K (.ref C0) "binds" = some (some (.ref g10)))
  (j10 : MI K g10 "binds" "Let.binds" gZ)
  (u11x0 : findIn K (.ref C0) "said" = some (some (.ref g11)))
  (j11 : MI K g11 "said" "Let.said" iU)
  (u12x1 : findIn K (.ref C1) "__init__" = some (some (.ref g12)))
  (j12 : MI K g12 "__init__" "Deed.__init__" dw)
  (u13x1 : findIn K (.ref C1) "binds" = some (some (.ref g13)))
  (j13 : MI K g13 "binds" "Deed.binds" gw)
  (u14x1 : findIn K (.ref C1) "said" = some (some (.ref g14)))
  (j14 : MI K g14 "said" "Deed.said" gY)
  (u15x2 : findIn K (.ref C2) "__init__" = some (some (.ref g15)))
  (j15 : MI K g15 "__init__" "Draw.__init__" dD)
  (u16x2 : findIn K (.ref C2) "binds" = some (some (.ref g16)))
  (j16 : MI K g16 "binds" "Draw.binds" gA)
  (u17x2 : findIn K (.ref C2) "asked" = some (some (.ref g17)))
  (j17 : MI K g17 "asked" "Draw.asked" gk)
  (u18x2 : findIn K (.ref C2) "said" = some (some (.ref g18)))
  (j18 : MI K g18 "said" "Draw.said" ie)
  (u19x3 : findIn K (.ref C3) "__init__" = some (some (.ref g19)))
  (j19 : MI K g19 "__init__" "Late.__init__" dj)
  (u20x3 : findIn K (.ref C3) "binds" = some (some (.ref g20)))
  (j20 : MI K g20 "binds" "Late.binds" fY)
  (u21x3 : findIn K (.ref C3) "asked" = some (some (.ref g21)))
  (j21 : MI K g21 "asked" "Late.asked" gf)
  (u22x3 : findIn K (.ref C3) "said" = some (some (.ref g22)))
  (j22 : MI K g22 "said" "Late.said" gK)
  (u23x4 : findIn K (.ref C4) "__init__" = some (some (.ref g23)))
  (j23 : MI K g23 "__init__" "Take.__init__" cZ)
  (u24x4 : findIn K (.ref C4) "binds" = some (some (.ref g24)))
  (j24 : MI K g24 "binds" "Take.binds" fP)
  (u25x4 : findIn K (.ref C4) "asked" = some (some (.ref g25)))
  (j25 : MI K g25 "asked" "Take.asked" fV)
  (u26x4 : findIn K (.ref C4) "said" = some (some (.ref g26)))
  (j26 : MI K g26 "said" "Take.said" gQ)
  (u27x5 : findIn K (.ref C5) "__init__" = some (some (.ref g27)))
  (j27 : MI K g27 "__init__" "Need.__init__" dB)
  (u28x5 : findIn K (.ref C5) "said" = some (some (.ref g28)))
  (j28 : MI K g28 "said" "Need.said" ig)
  (u29x7 : findIn K (.ref C7) "__init__" = some (some (.ref g29)))
  (j29 : MI K g29 "__init__" "Part.__init__" dq)
  (u30x7 : findIn K (.ref C7) "bound" = some (some (.ref g30)))
  (j30 : MI K g30 "bound" "Part.bound" gj)
  (u31x7 : findIn K (.ref C7) "text" = some (some (.ref g31)))
  (j31 : MI K g31 "text" "Part.text" gO)
  (A20 : nsIn K mainGlobals "HouseError" = some (some (.ref C20)))
  (B20 : K.lookup C20 = some (excClassObj nm20 qn20 C20 N20 bs20 jW true sn20 sub20 ab20 col20 dd20 x020 x120 x220 x320 x520 "ValueError.__new__"))
  (X21 : XI K C20 C21 gx21 "NoPart" "address")
  (jx21 : MI K gx21 "__init__" "NoPart.__init__" jf)
  (X22 : XI K C20 C22 gx22 "TooMany" "at")
  (jx22 : MI K gx22 "__init__" "TooMany.__init__" iB)
  (X24 : XI K C20 C24 gx24 "Orphan" "at")
  (jx24 : MI K gx24 "__init__" "Orphan.__init__" jq)
  (X25 : XI K C20 C25 gx25 "Clash" "at")
  (jx25 : MI K gx25 "__init__" "Clash.__init__" lF)
  (X26 : XI K C20 C26 gx26 "NoDrop" "address")
  (jx26 : MI K gx26 "__init__" "NoDrop.__init__" jm)
  (A23 : nsIn K mainGlobals "Double" = some (some (.ref C23)))
  (B23 : uQ K C23 (.ref C20 :: jW))
  (ND : [C20, C21, C22, C23, C24, C25, C26].Nodup)
  (y1 : specialIn K (.ref C20) "__getattribute__" = some (some (.builtin "type.__getattribute__")))
  (y2 : readsIn K C20 (.type "type") = true)
  (y3 : findCls K (.ref C20) (.type "type") "__init__" = some (.val (.builtin "ValueError.__init__")))
  (NH : K.lookup N20 = some ⟨oN, dN, .dict esN nN, slN⟩)
  (SK : qC esN = true)
  (NI : nsFind esN "__init__" = none)
  (oi : findIn K (.ref C6) "__init__" = some (some (.builtin "object.__init__")))
  (cg : specialIn K (.builtin "object.__class__") "__get__" = some (some (.builtin "getset_descriptor.__get__")))
  (ctk : takesIn K (.builtin "object.__class__") = some true)
  (gc0 : nsIn K mainGlobals "MOST_PARTS" = some (some (.int 12 tk0)))
  (z0 : nsIn K mainGlobals "sorted" = some none)
  (z1 : nsIn K mainGlobals "dict" = some none)
  (z2 : nsIn K mainGlobals "any" = some none)
  (z3 : nsIn K mainGlobals "enumerate" = some none)
  (z4 : nsIn K mainGlobals "len" = some none)
  (z5 : nsIn K mainGlobals "range" = some none)
  (z6 : nsIn K mainGlobals "isinstance" = some none)
  (z7 : nsIn K mainGlobals "str" = some none)
  (z8 : nsIn K mainGlobals "int" = some none)
  (z9 : nsIn K mainGlobals "bool" = some none)
  (z10 : nsIn K mainGlobals "list" = some none)
  (z11 : nsIn K mainGlobals "tuple" = some none)
  (z12 : nsIn K mainGlobals "all" = some none)
  (z13 : nsIn K mainGlobals "max" = some none)
  (z14 : nsIn K mainGlobals "min" = some none)
  (z15 : nsIn K mainGlobals "zip" = some none) :
  ∃ fd : FuncData, (∀ (s : Shared) (v : Value), BindsTo s fd ⟨[v], []⟩ [("_law_script", v)]) /\ ∀ base : Heap, K.In base -> base.Ns mainGlobals mg -> aL l.prog w K mg base CX0 11 fa fd ["_law_script"] (DR K) := by
 have R0 : RCl K C0 := ⟨⟨D0.pg, D0.hd, D0.po, D0.sa⟩, D0.ca, cg, ctk, D0.mo⟩
 have R1 : RCl K C1 := ⟨⟨D1.pg, D1.hd, D1.po, D1.sa⟩, D1.ca, cg, ctk, D1.mo⟩
 have R2 : RCl K C2 := ⟨⟨D2.pg, D2.hd, D2.po, D2.sa⟩, D2.ca, cg, ctk, D2.mo⟩
 have R3 : RCl K C3 := ⟨⟨D3.pg, D3.hd, D3.po, D3.sa⟩, D3.ca, cg, ctk, D3.mo⟩
 have R4 : RCl K C4 := ⟨⟨D4.pg, D4.hd, D4.po, D4.sa⟩, D4.ca, cg, ctk, D4.mo⟩
 have R5 : RCl K C5 := ⟨⟨D5.pg, D5.hd, D5.po, D5.sa⟩, D5.ca, cg, ctk, D5.mo⟩
 have R6 : RCl K C6 := ⟨⟨D6.pg, D6.hd, D6.po, D6.sa⟩, D6.ca, cg, ctk, D6.mo⟩
 have R7 : RCl K C7 := ⟨⟨D7.pg, D7.hd, D7.po, D7.sa⟩, D7.ca, cg, ctk, D7.mo⟩
 have R8 : RCl K C8 := ⟨⟨D8.pg, D8.hd, D8.po, D8.sa⟩, D8.ca, cg, ctk, D8.mo⟩
 have FM : Pg K (fun i => [C0, C1, C2, C3, C4, C5, C6, C7, C8, 0, 0, 0, 0, 0, 0, 0, 0, 0, 0, 0, C20, C21, C22, C23, C24, C25, C26].getD i 0) := ⟨rD R0 R1 R2 R3 R4 R5 R6, fun i j h1 h2 => rD (p := fun i => ∀ j, j <= 6 -> kitOne K (.ref ([C0, C1, C2, C3, C4, C5, C6, C7, C8, 0, 0, 0, 0, 0, 0, 0, 0, 0, 0, 0, C20, C21, C22, C23, C24, C25, C26].getD i 0)) (.ref ([C0, C1, C2, C3, C4, C5, C6, C7, C8, 0, 0, 0, 0, 0, 0, 0, 0, 0, 0, 0, C20, C21, C22, C23, C24, C25, C26].getD j 0)) = some (sJ i j)) (rD (aR D0.mm D0.mm D0.mo D0.ty) (aR mm0x1 D1.mm D1.mo D1.ty) (aR mm0x2 D2.mm D2.mo D2.ty) (aR mm0x3 D3.mm D3.mo D3.ty) (aR mm0x4 D4.mm D4.mo D4.ty) (aR mm0x5 D5.mm D5.mo D5.ty) (aR mm0x6 D6.mm D6.mo D6.ty)) (rD (aR mm1x0 D0.mm D0.mo D0.ty) (aR D1.mm D1.mm D1.mo D1.ty) (aR mm1x2 D2.mm D2.mo D2.ty) (aR mm1x3 D3.mm D3.mo D3.ty) (aR mm1x4 D4.mm D4.mo D4.ty) (aR mm1x5 D5.mm D5.mo D5.ty) (aR mm1x6 D6.mm D6.mo D6.ty)) (rD (aR mm2x0 D0.mm D0.mo D0.ty) (aR mm2x1 D1.mm D1.mo D1.ty) (aR D2.mm D2.mm D2.mo D2.ty) (aR mm2x3 D3.mm D3.mo D3.ty) (aR mm2x4 D4.mm D4.mo D4.ty) (aR mm2x5 D5.mm D5.mo D5.ty) (aR mm2x6 D6.mm D6.mo D6.ty)) (rD (aR mm3x0 D0.mm D0.mo D0.ty) (aR mm3x1 D1.mm D1.mo D1.ty) (aR mm3x2 D2.mm D2.mo D2.ty) (aR D3.mm D3.mm D3.mo D3.ty) (aR mm3x4 D4.mm D4.mo D4.ty) (aR mm3x5 D5.mm D5.mo D5.ty) (aR mm3x6 D6.mm D6.mo D6.ty)) (rD (aR mm4x0 D0.mm D0.mo D0.ty) (aR mm4x1 D1.mm D1.mo D1.ty) (aR mm4x2 D2.mm D2.mo D2.ty) (aR mm4x3 D3.mm D3.mo D3.ty) (aR D4.mm D4.mm D4.mo D4.ty) (aR mm4x5 D5.mm D5.mo D5.ty) (aR mm4x6 D6.mm D6.mo D6.ty)) (rD (aR mm5x0 D0.mm D0.mo D0.ty) (aR mm5x1 D1.mm D1.mo D1.ty) (aR mm5x2 D2.mm D2.mo D2.ty) (aR mm5x3 D3.mm D3.mo D3.ty) (aR mm5x4 D4.mm D4.mo D4.ty) (aR D5.mm D5.mm D5.mo D5.ty) (aR mm5x6 D6.mm D6.mo D6.ty)) (rD (aR mm6x0 D0.mm D0.mo D0.ty) (aR mm6x1 D1.mm D1.mo D1.ty) (aR mm6x2 D2.mm D2.mo D2.ty) (aR mm6x3 D3.mm D3.mo D3.ty) (aR mm6x4 D4.mm D4.mo D4.ty) (aR mm6x5 D5.mm D5.mo D5.ty) (aR D6.mm D6.mm D6.mo D6.ty)) i h1 j h2, rD nf0x0 nf1x0 nf2x0 nf3x0 nf4x0 nf5x0 nf6x0, rD nf0x1 nf1x1 nf2x1 nf3x1 nf4x1 nf5x1 nf6x1, rD nf0x2 nf1x2 nf2x2 nf3x2 nf4x2 nf5x2 nf6x2, rD nf0x3 nf1x3 nf2x3 nf3x3 nf4x3 nf5x3 nf6x3⟩
 have XF : K7 K (fun i => [C0, C1, C2, C3, C4, C5, C6, C7, C8, 0, 0, 0, 0, 0, 0, 0, 0, 0, 0, 0, C20, C21, C22, C23, C24, C25, C26].getD i 0) := ⟨DN (uC X21.l X21.e0 X21.e1 X21.e2 X21.e3 cg ctk) (uC X22.l X22.e0 X22.e1 X22.e2 X22.e3 cg ctk) (uC X24.l X24.e0 X24.e1 X24.e2 X24.e3 cg ctk) (uC X25.l X25.e0 X25.e1 X25.e2 X25.e3 cg ctk) (uC X26.l X26.e0 X26.e1 X26.e2 X26.e3 cg ctk), DN (vA X21.l) (vA X22.l) (vA X24.l) (vA X25.l) (vA X26.l), DN (X21.e4) (X22.e4) (X24.e4) (X25.e4) (X26.e4), fun i j a b c => DN (p := fun i => ∀ j, 21 <= j -> j <= 26 -> kitOne K (.ref ([C0, C1, C2, C3, C4, C5, C6, C7, C8, 0, 0, 0, 0, 0, 0, 0, 0, 0, 0, 0, C20, C21, C22, C23, C24, C25, C26].getD i 0)) (.ref ([C0, C1, C2, C3, C4, C5, C6, C7, C8, 0, 0, 0, 0, 0, 0, 0, 0, 0, 0, 0, C20, C21, C22, C23, C24, C25, C26].getD j 0)) = some (decide (i = j))) (Aa (p := fun j => kitOne K (.ref C21) (.ref ([C0, C1, C2, C3, C4, C5, C6, C7, C8, 0, 0, 0, 0, 0, 0, 0, 0, 0, 0, 0, C20, C21, C22, C23, C24, C25, C26].getD j 0)) = some (decide (21 = j))) (qH X21.l) (cU X21.l X22.l (bD ND (i := 2) (j := 0) rfl rfl Z0) (bD ND (i := 2) (j := 1) rfl rfl Z0)) (cU X21.l B23 (bD ND (i := 3) (j := 0) rfl rfl Z0) (bD ND (i := 3) (j := 1) rfl rfl Z0)) (cU X21.l X24.l (bD ND (i := 4) (j := 0) rfl rfl Z0) (bD ND (i := 4) (j := 1) rfl rfl Z0)) (cU X21.l X25.l (bD ND (i := 5) (j := 0) rfl rfl Z0) (bD ND (i := 5) (j := 1) rfl rfl Z0)) (cU X21.l X26.l (bD ND (i := 6) (j := 0) rfl rfl Z0) (bD ND (i := 6) (j := 1) rfl rfl Z0))) (Aa (p := fun j => kitOne K (.ref C22) (.ref ([C0, C1, C2, C3, C4, C5, C6, C7, C8, 0, 0, 0, 0, 0, 0, 0, 0, 0, 0, 0, C20, C21, C22, C23, C24, C25, C26].getD j 0)) = some (decide (22 = j))) (cU X22.l X21.l (bD ND (i := 1) (j := 0) rfl rfl Z0) (bD ND (i := 1) (j := 2) rfl rfl Z0)) (qH X22.l) (cU X22.l B23 (bD ND (i := 3) (j := 0) rfl rfl Z0) (bD ND (i := 3) (j := 2) rfl rfl Z0)) (cU X22.l X24.l (bD ND (i := 4) (j := 0) rfl rfl Z0) (bD ND (i := 4) (j := 2) rfl rfl Z0)) (cU X22.l X25.l (bD ND (i := 5) (j := 0) rfl rfl Z0) (bD ND (i := 5) (j := 2) rfl rfl Z0)) (cU X22.l X26.l (bD ND (i := 6) (j := 0) rfl rfl Z0) (bD ND (i := 6) (j := 2) rfl rfl Z0))) (Aa (p := fun j => kitOne K (.ref C24) (.ref ([C0, C1, C2, C3, C4, C5, C6, C7, C8, 0, 0, 0, 0, 0, 0, 0, 0, 0, 0, 0, C20, C21, C22, C23, C24, C25, C26].getD j 0)) = some (decide (24 = j))) (cU X24.l X21.l (bD ND (i := 1) (j := 0) rfl rfl Z0) (bD ND (i := 1) (j := 4) rfl rfl Z0)) (cU X24.l X22.l (bD ND (i := 2) (j := 0) rfl rfl Z0) (bD ND (i := 2) (j := 4) rfl rfl Z0)) (cU X24.l B23 (bD ND (i := 3) (j := 0) rfl rfl Z0) (bD ND (i := 3) (j := 4) rfl rfl Z0)) (qH X24.l) (cU X24.l X25.l (bD ND (i := 5) (j := 0) rfl rfl Z0) (bD ND (i := 5) (j := 4) rfl rfl Z0)) (cU X24.l X26.l (bD ND (i := 6) (j := 0) rfl rfl Z0) (bD ND (i := 6) (j := 4) rfl rfl Z0))) (Aa (p := fun j => kitOne K (.ref C25) (.ref ([C0, C1, C2, C3, C4, C5, C6, C7, C8, 0, 0, 0, 0, 0, 0, 0, 0, 0, 0, 0, C20, C21, C22, C23, C24, C25, C26].getD j 0)) = some (decide (25 = j))) (cU X25.l X21.l (bD ND (i := 1) (j := 0) rfl rfl Z0) (bD ND (i := 1) (j := 5) rfl rfl Z0)) (cU X25.l X22.l (bD ND (i := 2) (j := 0) rfl rfl Z0) (bD ND (i := 2) (j := 5) rfl rfl Z0)) (cU X25.l B23 (bD ND (i := 3) (j := 0) rfl rfl Z0) (bD ND (i := 3) (j := 5) rfl rfl Z0)) (cU X25.l X24.l (bD ND (i := 4) (j := 0) rfl rfl Z0) (bD ND (i := 4) (j := 5) rfl rfl Z0)) (qH X25.l) (cU X25.l X26.l (bD ND (i := 6) (j := 0) rfl rfl Z0) (bD ND (i := 6) (j := 5) rfl rfl Z0))) (Aa (p := fun j => kitOne K (.ref C26) (.ref ([C0, C1, C2, C3, C4, C5, C6, C7, C8, 0, 0, 0, 0, 0, 0, 0, 0, 0, 0, 0, C20, C21, C22, C23, C24, C25, C26].getD j 0)) = some (decide (26 = j))) (cU X26.l X21.l (bD ND (i := 1) (j := 0) rfl rfl Z0) (bD ND (i := 1) (j := 6) rfl rfl Z0)) (cU X26.l X22.l (bD ND (i := 2) (j := 0) rfl rfl Z0) (bD ND (i := 2) (j := 6) rfl rfl Z0)) (cU X26.l B23 (bD ND (i := 3) (j := 0) rfl rfl Z0) (bD ND (i := 3) (j := 6) rfl rfl Z0)) (cU X26.l X24.l (bD ND (i := 4) (j := 0) rfl rfl Z0) (bD ND (i := 4) (j := 6) rfl rfl Z0)) (cU X26.l X25.l (bD ND (i := 5) (j := 0) rfl rfl Z0) (bD ND (i := 5) (j := 6) rfl rfl Z0)) (qH X26.l)) i a j b c⟩
 have EX : ∀ {C : Addr}, uQ K C (.ref C20 :: jW) -> ExC K C := fun {C} l => by
  obtain ⟨_, _, _, _, _, _, _, _, _, _, _, _, _, _, l⟩ := l
  exact Kp B20 NH SK NI l
 have IX21 : ∃ f fd, XIn K C21 "NoPart.__init__" jf gG f fd := by
  obtain ⟨⟨fd, F⟩, i1, i2⟩ := jx21
  exact ⟨gx21, fd, F, F.binds ba2, X21.e5, i1, X21.kp, Z0⟩
 have IX22 : ∃ f fd, XIn K C22 "TooMany.__init__" iB iy f fd := by
  obtain ⟨⟨fd, F⟩, i1, i2⟩ := jx22
  exact ⟨gx22, fd, F, F.binds ba2, X22.e5, i1, X22.kp, Z0⟩
 have IX24 : ∃ f fd, XIn K C24 "Orphan.__init__" jq jc f fd := by
  obtain ⟨⟨fd, F⟩, i1, i2⟩ := jx24
  exact ⟨gx24, fd, F, F.binds ba2, X24.e5, i1, X24.kp, Z0⟩
 have IX25 : ∃ f fd, XIn K C25 "Clash.__init__" lF lH f fd := by
  obtain ⟨⟨fd, F⟩, i1, i2⟩ := jx25
  exact ⟨gx25, fd, F, F.binds ba2, X25.e5, i1, X25.kp, Z0⟩
 have IX26 : ∃ f fd, XIn K C26 "NoDrop.__init__" jm je f fd := by
  obtain ⟨⟨fd, F⟩, i1, i2⟩ := jx26
  exact ⟨gx26, fd, F, F.binds ba2, X26.e5, i1, X26.kp, Z0⟩
 have TT : Tx K mg (fun i => [C0, C1, C2, C3, C4, C5, C6, C7, C8, 0, 0, 0, 0, 0, 0, 0, 0, 0, 0, 0, C20, C21, C22, C23, C24, C25, C26].getD i 0) := ⟨mg_none_of X G z0, mg_none_of X G z1, mg_none_of X G z2, mg_none_of X G z3, mg_none_of X G z4, mg_none_of X G z5, mg_none_of X G z6, mg_none_of X G z7, mg_none_of X G z8, mg_none_of X G z9, mg_none_of X G z10, mg_none_of X G z11, mg_none_of X G z12, mg_none_of X G z13, mg_none_of X G z14, mg_none_of X G z15, ⟨_, mg_of X G gc0⟩, fat X G ba2 h0, fat X G ba1 h1, fat X G ba1 h2, fat X G ba1 h3, fat X G ba1 h4, fat X G ba2 h5, fat X G ba2 h6, fat X G ba2 h7, fat X G ba1 h8, fat X G ba2 h9, fat X G ba2 h10, fat X G ba3 h11, fat X G ba1 h12, fat X G ba3 h13, fat X G ba1 h14, fat X G ba3 h15, fat X G ba4 h16, fat X G ba3 h17, fat X G ba1 h18, fat X G ba2 h19, fat X G ba1 h20, fat X G ba1 h21, fat X G ba1 h22, fat X G ba2 h23, fat X G ba1 h24, fat X G ba1 h25, fat X G ba3 h26, fat X G ba3 h27, fat X G ba3 h28, fat X G ba2 h29, eO ba2 j0 fun i k => ⟨D8.mq, u0x8, i, D8.kc⟩, eO ba1 j1 fun i k => ⟨u1x8, i, k⟩, eO ba2 j2 fun i k => ⟨u2x8, i, k⟩, eO ba2 j3 fun i k => ⟨u3x8, i, k⟩, eO ba2 j4 fun i k => ⟨u4x8, i, k⟩, eO ba2 j5 fun i k => ⟨u5x8, i, k⟩, eO ba1 j6 fun i k => ⟨⟨u6x5, i, k⟩, ⟨u6x6, i, k⟩⟩, eO ba1 j7 fun i k => ⟨⟨u7x0, i, k⟩, ⟨u7x1, i, k⟩, ⟨u7x5, i, k⟩, ⟨u7x6, i, k⟩⟩, eO ba1 j8 fun i k => ⟨u8x6, i, k⟩, eO ba3 j9 fun i k => ⟨D0.mq, u9x0, i, D0.kc⟩, eO ba1 j10 fun i k => ⟨u10x0, i, k⟩, eO ba1 j11 fun i k => ⟨u11x0, i, k⟩, eO ba3 j12 fun i k => ⟨D1.mq, u12x1, i, D1.kc⟩, eO ba1 j13 fun i k => ⟨u13x1, i, k⟩, eO ba1 j14 fun i k => ⟨u14x1, i, k⟩, eO ba3 j15 fun i k => ⟨D2.mq, u15x2, i, D2.kc⟩, eO ba1 j16 fun i k => ⟨u16x2, i, k⟩, eO ba1 j17 fun i k => ⟨u17x2, i, k⟩, eO ba1 j18 fun i k => ⟨u18x2, i, k⟩, eO ba3 j19 fun i k => ⟨D3.mq, u19x3, i, D3.kc⟩, eO ba1 j20 fun i k => ⟨u20x3, i, k⟩, eO ba1 j21 fun i k => ⟨u21x3, i, k⟩, eO ba1 j22 fun i k => ⟨u22x3, i, k⟩, eO ba4 j23 fun i k => ⟨D4.mq, u23x4, i, D4.kc⟩, eO ba1 j24 fun i k => ⟨u24x4, i, k⟩, eO ba1 j25 fun i k => ⟨u25x4, i, k⟩, eO ba1 j26 fun i k => ⟨u26x4, i, k⟩, eO ba2 j27 fun i k => ⟨D5.mq, u27x5, i, D5.kc⟩, eO ba1 j28 fun i k => ⟨u28x5, i, k⟩, eO ba3 j29 fun i k => ⟨D7.mq, u29x7, i, D7.kc⟩, eO ba1 j30 fun i k => ⟨u30x7, i, k⟩, eO ba1 j31 fun i k => ⟨u31x7, i, k⟩, mg_of X G D0.A, mg_of X G D1.A, mg_of X G D2.A, mg_of X G D3.A, mg_of X G D4.A, mg_of X G D5.A, mg_of X G D6.A, mg_of X G D7.A, mg_of X G D8.A, ⟨D6.mq, oi, D6.kc⟩, FM, ⟨R7, nf7x0, nf7x1, aR D7.mm D7.mm D7.mo D7.ty⟩, ⟨R8, nf8x0⟩, mg_of X G A20, mg_of X G X21.A, mg_of X G X22.A, mg_of X G A23, mg_of X G X24.A, mg_of X G X25.A, mg_of X G X26.A, Nh B20, XF, EX X21.l, EX X22.l, EX X24.l, EX X25.l, EX X26.l, IX21, IX22, IX24, IX25, IX26, y1, y2, y3⟩
 obtain ⟨f, fd, a, F⟩ := h30
 cases hfa.symm.trans (mg_of X G a)
 obtain ⟨oc, od, kV, doc, pm, an, cdv, ct, osl, rfl, lk, hcd⟩ := id F.ex
 exact ⟨_, fun s v => .of_eq rfl, fun base _ _ => MT TT F⟩
theorem walk {l : OpenLaw} {q : Program} {loose : List Str} {XP : (Str -> Option Value) -> Heap -> Prop} {YP : World -> Heap -> Prop} {d : DefRec} {K : Params -> Frag} (hn : l.most = some 63) (hdf : d.params.defaults = [])
  (hY : ∀ (w : World) (h : Heap), YP w h -> (K w.params).In h)
  (F : ∀ (w : World) (mg : MG) (fa : Addr) (h : Heap), (K w.params).In h -> h.Ns mainGlobals mg -> mg d.name = some (.ref fa) ->
   ∃ fd : FuncData, (∀ (s : Shared) (u : Value), BindsTo s fd ⟨[u], []⟩ [("_law_script", u)]) /\ ∀ base : Heap, (K w.params).In base -> base.Ns mainGlobals mg -> aL l.prog w (K w.params) mg base CX0 11 fa fd ["_law_script"] (DR (K w.params))) :
  WalkO q loose XP YP l.row.toRowW d [] (fun f vs => PySem.call f vs) :=
 L2.Ke (n := 63) (k := 11) (x := "_law_script") (CX := fun _ => CX0) (sp := fun w => DR (K w.params)) hn Z0 hdf ⟨rfl, Z0, Z0⟩ hY F (fun _ _ a ns hl _ hS => ⟨a, ns, rfl, hS, hl, fun _ => rfl⟩) fun _ _ _ _ _ z => z
noncomputable section
noncomputable abbrev ke (P : Params) (x : Str) (t : Nat) (v : Value) : DictEntry := ⟨PyData.keyHash P x, .str x t, v⟩
noncomputable abbrev kf (s : Stmt) (n q : Str) (m : Value) (c : Nat) : Obj := { cls := .type "function", data := .func { name := n, qualname := q, params := L2.dC s, body := .stmts (L2.bZ s), scope := L2.aB s, globals := 3, closure := [], defaults := .none, kwdefaults := .none, pyModule := m, code := .ref c } }
noncomputable abbrev kc (n q : Str) (a b c : Nat) (l k : Int) (f r : Nat) (t : Bool) (g : Int) (u : Nat) (x y z : Value) (v : Nat) (m : Int) (e : Nat) : Obj := { cls := .type "code", data := .fields #[.str n a, .str q b, .str "/claim/cut.py" c, .int l 0, .int k 0, .int 0 0, .int 0 0, .int f 0, .ref r, .bool t, .int g 0, .ref u, x, y, z, .ref v, .int m 0, .int l 0, .str "/claim/cut.py" e] }
noncomputable abbrev kt (n : Str) (b s : Value) (m : List Value) (d : Nat) (x : Option Value) (t u : Nat) (w : String) (l : List Value) : Obj := { cls := .type "type", data := .cls { name := n, bases := [b], mro := s :: m, ns := d, qualname := n, subclasses := l }, slots := #[x, none, some (.str n t), some (.str n u), some (.builtin w), some (.bool true)] }
noncomputable abbrev kd (n q : Str) (a : Nat) (l k : Int) (f r m : Nat) : Obj := kc n q a (a + 1) (a + 2) l k f r true 181 (r + 1) .none (.ref (r + 2)) (.ref (r + 3)) (r + 4) m (m + 1)
noncomputable abbrev kb (n q : Str) (a : Nat) (l k : Int) (f r m : Nat) : Obj := kc n q a (a + 1) (a + 2) l k f r true 181 (r + 1) .none .none .none (r + 2) m (m + 1)
noncomputable abbrev g1 (t a : Nat) : Obj := { cls := .type "getset_descriptor", data := .fields #[.str "__dict__" t, .ref a, .builtin "function.__dict__", .builtin "function.__dict__#set"] }
noncomputable abbrev g2 (t a : Nat) : Obj := { cls := .type "getset_descriptor", data := .fields #[.str "__weakref__" t, .ref a, .builtin "ExceptionGroup.__weakref__", .none] }
abbrev mE : List Value := [.type "ValueError", .type "Exception", .type "BaseException", .type "object"]
abbrev mO : List Value := [.type "object"]
abbrev Li : Value := .str "__main__" 164
abbrev lR : Value := .str "drawhouse.errors" 194
abbrev Od : Value := .str "drawhouse.words" 364
abbrev um : Value := .str "drawhouse.house" 379
abbrev Oa : Value := .str "drawhouse.exprs" 466
abbrev cW : Value := .str "drawhouse.rows" 488
abbrev Qs : Value := .str "drawhouse.links" 791
abbrev Fp : Value := .str "drawhouse.parts" 808
abbrev jt : Value := .str "law_drawhouse_k35_with_and_without" 861
abbrev n0 (P : Params) (r : List DictEntry) : List DictEntry := ke P "__doc__" 166 .none :: ke P "__package__" 167 .none :: ke P "__loader__" 168 (.builtin "__main__.__loader__#opaque") :: ke P "__spec__" 169 .none :: ke P "__annotations__" 170 (.ref 6) :: ke P "__builtins__" 171 (.ref 4) :: ke P "__file__" 173 (.str "/claim/cut.py" 172) :: ke P "__cached__" 174 .none :: ke P "_wall" 193 (.ref 21) :: ke P "HouseError" 213 (.ref 31) :: ke P "TooMany" 238 (.ref 51) :: ke P "Double" 263 (.ref 70) :: ke P "Orphan" 288 (.ref 89) :: ke P "Clash" 313 (.ref 108) :: ke P "NoPart" 338 (.ref 127) :: r
abbrev n1 (P : Params) (r : List DictEntry) : List DictEntry := ke P "NoDrop" 363 (.ref 146) :: ke P "prefixes" 371 (.ref 153) :: ke P "parent_of" 378 (.ref 160) :: ke P "MOST_PARTS" 382 (.int 12 381) :: ke P "is_orphan" 391 (.ref 167) :: ke P "is_clash" 397 (.ref 172) :: ke P "check_parts" 403 (.ref 177) :: ke P "House" 465 (.ref 221) :: ke P "show_term" 476 (.ref 232) :: ke P "show_expr" 487 (.ref 239) :: ke P "Row" 530 (.ref 270) :: ke P "Let" 571 (.ref 305) :: r
abbrev n2 (P : Params) (r : List DictEntry) : List DictEntry := ke P "Deed" 612 (.ref 338) :: ke P "Draw" 660 (.ref 378) :: ke P "Late" 708 (.ref 418) :: ke P "Take" 758 (.ref 458) :: r
abbrev n3 (P : Params) (r : List DictEntry) : List DictEntry := ke P "Need" 790 (.ref 484) :: ke P "named_by" 801 (.ref 493) :: ke P "links" 807 (.ref 498) :: ke P "Part" 860 (.ref 532) :: ke P "_law_cell" 870 (.ref 543) :: ke P "_law_sub" 878 (.ref 550) :: ke P "_law_pick" 890 (.ref 557) :: ke P "_law_words" 896 (.ref 562) :: ke P "_law_addresses" 902 (.ref 567) :: ke P "_law_prefixes" 908 (.ref 572) :: ke P "_law_asked" 919 (.ref 579) :: ke P "_law_drawn" 925 (.ref 584) :: ke P "_law_rows" 931 (.ref 589) :: ke P "_law_row" 943 (.ref 596) :: ke P "_law_parts" 949 (.ref 601) :: ke P "_law_made" 959 (.ref 608) :: ke P "_law_names" 965 (.ref 613) :: ke P "_law_due" 971 (.ref 618) :: ke P "_law_less" 977 (.ref 623) :: ke P "_law_word" 985 (.ref 630) :: ke P "_law_said" 991 (.ref 635) :: ke P "_law_does" 997 (.ref 640) :: ke P "_law_other" 1003 (.ref 645) :: ke P "_law_links" 1009 (.ref 650) :: ke P "_law_stands" 1015 (.ref 655) :: ke P "law" 1021 (.ref 660) :: r
abbrev k3 (P : Params) : Obj := { cls := .type "dict", data := .dict (List.toArray (ke P "__name__" 165 (.str "law_drawhouse_k35_with_and_without" 861) :: n0 P (n1 P (n2 P (n3 P ([])))))) 58 }
abbrev k20 := kd "_wall" "_wall" 187 1 1 3 15 191
abbrev k21 := kf (Mine.top 0) "_wall" "_wall" Li 20
abbrev k30 (P : Params) : Obj := { cls := .type "dict", data := .dict #[ke P "__module__" 203 (.str "drawhouse.errors" 194), ke P "__firstlineno__" 207 (.int 5 206), ke P "__static_attributes__" 208 (.ref 29), ke P "__weakref__" 210 (.ref 32), ke P "__doc__" 211 .none] 3 }
abbrev k31 := kt "HouseError" (.type "ValueError") (.ref 31) mE 30 (some (.ref 22)) 196 204 "ValueError.__new__" [.ref 51, .ref 70, .ref 89, .ref 108, .ref 127, .ref 146]
abbrev k32 := g2 209 31
abbrev k47 := kd "__init__" "TooMany.__init__" 226 9 2 3 42 231
abbrev k48 := kf (Mine.sb 3 0) "__init__" "TooMany.__init__" lR 47
abbrev k50 (P : Params) : Obj := { cls := .type "dict", data := .dict #[ke P "__module__" 221 (.str "drawhouse.errors" 194), ke P "__firstlineno__" 225 (.int 7 224), ke P "__init__" 233 (.ref 48), ke P "__static_attributes__" 235 (.ref 49), ke P "__doc__" 236 .none] 2 }
abbrev k51 := kt "TooMany" (.ref 31) (.ref 51) (.ref 31 :: mE) 50 (some (.ref 35)) 214 222 "ValueError.__new__" []
abbrev k66 := kd "__init__" "Double.__init__" 251 14 2 3 61 256
abbrev k67 := kf (Mine.sb 4 0) "__init__" "Double.__init__" lR 66
abbrev k69 (P : Params) : Obj := { cls := .type "dict", data := .dict #[ke P "__module__" 246 (.str "drawhouse.errors" 194), ke P "__firstlineno__" 250 (.int 12 249), ke P "__init__" 258 (.ref 67), ke P "__static_attributes__" 260 (.ref 68), ke P "__doc__" 261 .none] 2 }
abbrev k70 := kt "Double" (.ref 31) (.ref 70) (.ref 31 :: mE) 69 (some (.ref 54)) 239 247 "ValueError.__new__" []
abbrev k85 := kd "__init__" "Orphan.__init__" 276 19 2 3 80 281
abbrev k86 := kf (Mine.sb 5 0) "__init__" "Orphan.__init__" lR 85
abbrev k88 (P : Params) : Obj := { cls := .type "dict", data := .dict #[ke P "__module__" 271 (.str "drawhouse.errors" 194), ke P "__firstlineno__" 275 (.int 17 274), ke P "__init__" 283 (.ref 86), ke P "__static_attributes__" 285 (.ref 87), ke P "__doc__" 286 .none] 2 }
abbrev k89 := kt "Orphan" (.ref 31) (.ref 89) (.ref 31 :: mE) 88 (some (.ref 73)) 264 272 "ValueError.__new__" []
abbrev k104 := kd "__init__" "Clash.__init__" 301 24 2 3 99 306
abbrev k105 := kf (Mine.sb 6 0) "__init__" "Clash.__init__" lR 104
abbrev k107 (P : Params) : Obj := { cls := .type "dict", data := .dict #[ke P "__module__" 296 (.str "drawhouse.errors" 194), ke P "__firstlineno__" 300 (.int 22 299), ke P "__init__" 308 (.ref 105), ke P "__static_attributes__" 310 (.ref 106), ke P "__doc__" 311 .none] 2 }
abbrev k108 := kt "Clash" (.ref 31) (.ref 108) (.ref 31 :: mE) 107 (some (.ref 92)) 289 297 "ValueError.__new__" []
abbrev k123 := kd "__init__" "NoPart.__init__" 326 29 2 3 118 331
abbrev k124 := kf (Mine.sb 7 0) "__init__" "NoPart.__init__" lR 123
abbrev k126 (P : Params) : Obj := { cls := .type "dict", data := .dict #[ke P "__module__" 321 (.str "drawhouse.errors" 194), ke P "__firstlineno__" 325 (.int 27 324), ke P "__init__" 333 (.ref 124), ke P "__static_attributes__" 335 (.ref 125), ke P "__doc__" 336 .none] 2 }
abbrev k127 := kt "NoPart" (.ref 31) (.ref 127) (.ref 31 :: mE) 126 (some (.ref 111)) 314 322 "ValueError.__new__" []
abbrev k142 := kd "__init__" "NoDrop.__init__" 351 34 2 3 137 356
abbrev k143 := kf (Mine.sb 8 0) "__init__" "NoDrop.__init__" lR 142
abbrev k145 (P : Params) : Obj := { cls := .type "dict", data := .dict #[ke P "__module__" 346 (.str "drawhouse.errors" 194), ke P "__firstlineno__" 350 (.int 32 349), ke P "__init__" 358 (.ref 143), ke P "__static_attributes__" 360 (.ref 144), ke P "__doc__" 361 .none] 2 }
abbrev k146 := kt "NoDrop" (.ref 31) (.ref 146) (.ref 31 :: mE) 145 (some (.ref 130)) 339 347 "ValueError.__new__" []
abbrev k152 := kb "prefixes" "prefixes" 366 38 1 3 149 369
abbrev k153 := kf (Mine.top 10) "prefixes" "prefixes" Od 152
abbrev k159 := kd "parent_of" "parent_of" 372 41 1 3 154 376
abbrev k160 := kf (Mine.top 11) "parent_of" "parent_of" Od 159
abbrev k166 := kd "is_orphan" "is_orphan" 383 45 2 3 161 389
abbrev k167 := kf (Mine.top 14) "is_orphan" "is_orphan" um 166
abbrev k171 := kb "is_clash" "is_clash" 392 48 2 3 168 395
abbrev k172 := kf (Mine.top 15) "is_clash" "is_clash" um 171
abbrev k176 := kb "check_parts" "check_parts" 398 50 1 3 173 401
abbrev k177 := kf (Mine.top 16) "check_parts" "check_parts" um 176
abbrev k190 := kd "__init__" "House.__init__" 416 63 2 3 185 421
abbrev k191 := kf (Mine.sb 17 0) "__init__" "House.__init__" um 190
abbrev k195 := kb "addresses" "House.addresses" 424 67 1 3 192 427
abbrev k196 := kf (Mine.sb 17 1) "addresses" "House.addresses" um 195
abbrev k200 := kb "has" "House.has" 430 70 2 3 197 433
abbrev k201 := kf (Mine.sb 17 2) "has" "House.has" um 200
abbrev k207 := kd "part" "House.part" 436 73 2 3 202 442
abbrev k208 := kf (Mine.sb 17 3) "part" "House.part" um 207
abbrev k212 := kb "with_part" "House.with_part" 445 79 2 3 209 448
abbrev k213 := kf (Mine.sb 17 4) "with_part" "House.with_part" um 212
abbrev k217 := kb "without" "House.without" 451 84 2 3 214 454
abbrev k218 := kf (Mine.sb 17 5) "without" "House.without" um 217
abbrev k220 (P : Params) : Obj := { cls := .type "dict", data := .dict #[ke P "__module__" 411 (.str "drawhouse.house" 379), ke P "__firstlineno__" 415 (.int 61 414), ke P "__init__" 423 (.ref 191), ke P "addresses" 429 (.ref 196), ke P "has" 435 (.ref 201), ke P "part" 444 (.ref 208), ke P "with_part" 450 (.ref 213), ke P "without" 456 (.ref 218), ke P "__static_attributes__" 458 (.ref 219), ke P "__dict__" 460 (.ref 222), ke P "__weakref__" 462 (.ref 223), ke P "__doc__" 463 .none] 4 }
abbrev k221 := kt "House" (.type "object") (.ref 221) mO 220 none 404 412 "object.__new__" []
abbrev k222 := g1 459 221
abbrev k223 := g2 461 221
abbrev k231 := kd "show_term" "show_term" 468 91 2 3 226 474
abbrev k232 := kf (Mine.top 19) "show_term" "show_term" Oa 231
abbrev k238 := kd "show_expr" "show_expr" 477 98 1 3 233 485
abbrev k239 := kf (Mine.top 20) "show_expr" "show_expr" Oa 238
abbrev k252 := kd "binds" "Row.binds" 502 108 1 3 247 506
abbrev k253 := kf (Mine.sb 22 0) "binds" "Row.binds" cW 252
abbrev k259 := kd "asked" "Row.asked" 509 111 1 3 254 513
abbrev k260 := kf (Mine.sb 22 1) "asked" "Row.asked" cW 259
abbrev k266 := kd "said" "Row.said" 516 114 1 3 261 520
abbrev k267 := kf (Mine.sb 22 2) "said" "Row.said" cW 266
abbrev k269 (P : Params) : Obj := { cls := .type "dict", data := .dict #[ke P "__module__" 497 (.str "drawhouse.rows" 488), ke P "__firstlineno__" 501 (.int 106 500), ke P "binds" 508 (.ref 253), ke P "asked" 515 (.ref 260), ke P "said" 522 (.ref 267), ke P "__static_attributes__" 523 (.ref 268), ke P "__dict__" 525 (.ref 271), ke P "__weakref__" 527 (.ref 272), ke P "__doc__" 528 .none] 4 }
abbrev k270 := kt "Row" (.type "object") (.ref 270) mO 269 none 490 498 "object.__new__" [.ref 305, .ref 338, .ref 378, .ref 418, .ref 458, .ref 484]
abbrev k271 := g1 524 270
abbrev k272 := g2 526 270
abbrev k287 := kd "__init__" "Let.__init__" 543 118 3 3 282 549
abbrev k288 := kf (Mine.sb 23 0) "__init__" "Let.__init__" cW 287
abbrev k294 := kd "binds" "Let.binds" 552 122 1 3 289 556
abbrev k295 := kf (Mine.sb 23 1) "binds" "Let.binds" cW 294
abbrev k301 := kd "said" "Let.said" 559 125 1 3 296 563
abbrev k302 := kf (Mine.sb 23 2) "said" "Let.said" cW 301
abbrev k304 (P : Params) : Obj := { cls := .type "dict", data := .dict #[ke P "__module__" 538 (.str "drawhouse.rows" 488), ke P "__firstlineno__" 542 (.int 116 541), ke P "__init__" 551 (.ref 288), ke P "binds" 558 (.ref 295), ke P "said" 565 (.ref 302), ke P "__static_attributes__" 568 (.ref 303), ke P "__doc__" 569 .none] 2 }
abbrev k305 := kt "Let" (.ref 270) (.ref 305) (.ref 270 :: mO) 304 (some (.ref 275)) 531 539 "object.__new__" []
abbrev k320 := kd "__init__" "Deed.__init__" 584 129 3 3 315 590
abbrev k321 := kf (Mine.sb 24 0) "__init__" "Deed.__init__" cW 320
abbrev k327 := kd "binds" "Deed.binds" 593 133 1 3 322 597
abbrev k328 := kf (Mine.sb 24 1) "binds" "Deed.binds" cW 327
abbrev k334 := kd "said" "Deed.said" 600 136 1 3 329 604
abbrev k335 := kf (Mine.sb 24 2) "said" "Deed.said" cW 334
abbrev k337 (P : Params) : Obj := { cls := .type "dict", data := .dict #[ke P "__module__" 579 (.str "drawhouse.rows" 488), ke P "__firstlineno__" 583 (.int 127 582), ke P "__init__" 592 (.ref 321), ke P "binds" 599 (.ref 328), ke P "said" 606 (.ref 335), ke P "__static_attributes__" 609 (.ref 336), ke P "__doc__" 610 .none] 2 }
abbrev k338 := kt "Deed" (.ref 270) (.ref 338) (.ref 270 :: mO) 337 (some (.ref 308)) 572 580 "object.__new__" []
abbrev k353 := kd "__init__" "Draw.__init__" 625 140 3 3 348 631
abbrev k354 := kf (Mine.sb 25 0) "__init__" "Draw.__init__" cW 353
abbrev k360 := kd "binds" "Draw.binds" 634 144 1 3 355 638
abbrev k361 := kf (Mine.sb 25 1) "binds" "Draw.binds" cW 360
abbrev k367 := kd "asked" "Draw.asked" 641 147 1 3 362 645
abbrev k368 := kf (Mine.sb 25 2) "asked" "Draw.asked" cW 367
abbrev k374 := kd "said" "Draw.said" 648 150 1 3 369 652
abbrev k375 := kf (Mine.sb 25 3) "said" "Draw.said" cW 374
abbrev k377 (P : Params) : Obj := { cls := .type "dict", data := .dict #[ke P "__module__" 620 (.str "drawhouse.rows" 488), ke P "__firstlineno__" 624 (.int 138 623), ke P "__init__" 633 (.ref 354), ke P "binds" 640 (.ref 361), ke P "asked" 647 (.ref 368), ke P "said" 654 (.ref 375), ke P "__static_attributes__" 657 (.ref 376), ke P "__doc__" 658 .none] 2 }
abbrev k378 := kt "Draw" (.ref 270) (.ref 378) (.ref 270 :: mO) 377 (some (.ref 341)) 613 621 "object.__new__" []
abbrev k393 := kd "__init__" "Late.__init__" 673 154 3 3 388 679
abbrev k394 := kf (Mine.sb 26 0) "__init__" "Late.__init__" cW 393
abbrev k400 := kd "binds" "Late.binds" 682 158 1 3 395 686
abbrev k401 := kf (Mine.sb 26 1) "binds" "Late.binds" cW 400
abbrev k407 := kd "asked" "Late.asked" 689 161 1 3 402 693
abbrev k408 := kf (Mine.sb 26 2) "asked" "Late.asked" cW 407
abbrev k414 := kd "said" "Late.said" 696 164 1 3 409 700
abbrev k415 := kf (Mine.sb 26 3) "said" "Late.said" cW 414
abbrev k417 (P : Params) : Obj := { cls := .type "dict", data := .dict #[ke P "__module__" 668 (.str "drawhouse.rows" 488), ke P "__firstlineno__" 672 (.int 152 671), ke P "__init__" 681 (.ref 394), ke P "binds" 688 (.ref 401), ke P "asked" 695 (.ref 408), ke P "said" 702 (.ref 415), ke P "__static_attributes__" 705 (.ref 416), ke P "__doc__" 706 .none] 2 }
abbrev k418 := kt "Late" (.ref 270) (.ref 418) (.ref 270 :: mO) 417 (some (.ref 381)) 661 669 "object.__new__" []
abbrev k433 := kd "__init__" "Take.__init__" 721 168 4 3 428 728
abbrev k434 := kf (Mine.sb 27 0) "__init__" "Take.__init__" cW 433
abbrev k440 := kd "binds" "Take.binds" 731 173 1 3 435 735
abbrev k441 := kf (Mine.sb 27 1) "binds" "Take.binds" cW 440
abbrev k447 := kd "asked" "Take.asked" 738 176 1 3 442 742
abbrev k448 := kf (Mine.sb 27 2) "asked" "Take.asked" cW 447
abbrev k454 := kd "said" "Take.said" 745 179 1 3 449 749
abbrev k455 := kf (Mine.sb 27 3) "said" "Take.said" cW 454
abbrev k457 (P : Params) : Obj := { cls := .type "dict", data := .dict #[ke P "__module__" 716 (.str "drawhouse.rows" 488), ke P "__firstlineno__" 720 (.int 166 719), ke P "__init__" 730 (.ref 434), ke P "binds" 737 (.ref 441), ke P "asked" 744 (.ref 448), ke P "said" 751 (.ref 455), ke P "__static_attributes__" 755 (.ref 456), ke P "__doc__" 756 .none] 2 }
abbrev k458 := kt "Take" (.ref 270) (.ref 458) (.ref 270 :: mO) 457 (some (.ref 421)) 709 717 "object.__new__" []
abbrev k473 := kd "__init__" "Need.__init__" 771 183 2 3 468 776
abbrev k474 := kf (Mine.sb 28 0) "__init__" "Need.__init__" cW 473
abbrev k480 := kd "said" "Need.said" 779 186 1 3 475 783
abbrev k481 := kf (Mine.sb 28 1) "said" "Need.said" cW 480
abbrev k483 (P : Params) : Obj := { cls := .type "dict", data := .dict #[ke P "__module__" 766 (.str "drawhouse.rows" 488), ke P "__firstlineno__" 770 (.int 181 769), ke P "__init__" 778 (.ref 474), ke P "said" 785 (.ref 481), ke P "__static_attributes__" 787 (.ref 482), ke P "__doc__" 788 .none] 2 }
abbrev k484 := kt "Need" (.ref 270) (.ref 484) (.ref 270 :: mO) 483 (some (.ref 461)) 759 767 "object.__new__" []
abbrev k492 := kd "named_by" "named_by" 793 189 1 3 487 799
abbrev k493 := kf (Mine.top 30) "named_by" "named_by" Qs 492
abbrev k497 := kb "links" "links" 802 196 2 3 494 805
abbrev k498 := kf (Mine.top 31) "links" "links" Qs 497
abbrev k511 := kd "__init__" "Part.__init__" 822 205 3 3 506 828
abbrev k512 := kf (Mine.sb 33 0) "__init__" "Part.__init__" Fp 511
abbrev k516 := kb "bound" "Part.bound" 831 209 1 3 513 834
abbrev k517 := kf (Mine.sb 33 1) "bound" "Part.bound" Fp 516
abbrev k523 := kd "place_of" "Part.place_of" 837 213 2 3 518 842
abbrev k524 := kf (Mine.sb 33 2) "place_of" "Part.place_of" Fp 523
abbrev k528 := kb "text" "Part.text" 845 216 1 3 525 848
abbrev k529 := kf (Mine.sb 33 3) "text" "Part.text" Fp 528
abbrev k531 (P : Params) : Obj := { cls := .type "dict", data := .dict #[ke P "__module__" 817 (.str "drawhouse.parts" 808), ke P "__firstlineno__" 821 (.int 203 820), ke P "__init__" 830 (.ref 512), ke P "bound" 836 (.ref 517), ke P "place_of" 844 (.ref 524), ke P "text" 850 (.ref 529), ke P "__static_attributes__" 853 (.ref 530), ke P "__dict__" 855 (.ref 533), ke P "__weakref__" 857 (.ref 534), ke P "__doc__" 858 .none] 4 }
abbrev k532 := kt "Part" (.type "object") (.ref 532) mO 531 none 810 818 "object.__new__" []
abbrev k533 := g1 854 532
abbrev k534 := g2 856 532
abbrev k542 := kd "_law_cell" "_law_cell" 863 219 2 3 537 868
abbrev k543 := kf (Mine.top 35) "_law_cell" "_law_cell" jt 542
abbrev k549 := kd "_law_sub" "_law_sub" 871 223 2 3 544 876
abbrev k550 := kf (Mine.top 36) "_law_sub" "_law_sub" jt 549
abbrev k556 := kd "_law_pick" "_law_pick" 879 227 3 3 551 888
abbrev k557 := kf (Mine.top 37) "_law_pick" "_law_pick" jt 556
abbrev k561 := kb "_law_words" "_law_words" 891 236 1 3 558 894
abbrev k562 := kf (Mine.top 38) "_law_words" "_law_words" jt 561
abbrev k566 := kb "_law_addresses" "_law_addresses" 897 249 3 3 563 900
abbrev k567 := kf (Mine.top 39) "_law_addresses" "_law_addresses" jt 566
abbrev k571 := kb "_law_prefixes" "_law_prefixes" 903 262 1 3 568 906
abbrev k572 := kf (Mine.top 40) "_law_prefixes" "_law_prefixes" jt 571
abbrev k578 := kd "_law_asked" "_law_asked" 909 265 3 3 573 917
abbrev k579 := kf (Mine.top 41) "_law_asked" "_law_asked" jt 578
abbrev k583 := kb "_law_drawn" "_law_drawn" 920 273 4 3 580 923
abbrev k584 := kf (Mine.top 42) "_law_drawn" "_law_drawn" jt 583
abbrev k588 := kb "_law_rows" "_law_rows" 926 286 3 3 585 929
abbrev k589 := kf (Mine.top 43) "_law_rows" "_law_rows" jt 588
abbrev k595 := kd "_law_row" "_law_row" 932 298 1 3 590 941
abbrev k596 := kf (Mine.top 44) "_law_row" "_law_row" jt 595
abbrev k600 := kb "_law_parts" "_law_parts" 944 314 2 3 597 947
abbrev k601 := kf (Mine.top 45) "_law_parts" "_law_parts" jt 600
abbrev k607 := kd "_law_made" "_law_made" 950 316 1 3 602 957
abbrev k608 := kf (Mine.top 46) "_law_made" "_law_made" jt 607
abbrev k612 := kb "_law_names" "_law_names" 960 323 1 3 609 963
abbrev k613 := kf (Mine.top 47) "_law_names" "_law_names" jt 612
abbrev k617 := kb "_law_due" "_law_due" 966 325 1 3 614 969
abbrev k618 := kf (Mine.top 48) "_law_due" "_law_due" jt 617
abbrev k622 := kb "_law_less" "_law_less" 972 337 2 3 619 975
abbrev k623 := kf (Mine.top 49) "_law_less" "_law_less" jt 622
abbrev k629 := kd "_law_word" "_law_word" 978 344 1 3 624 983
abbrev k630 := kf (Mine.top 50) "_law_word" "_law_word" jt 629
abbrev k634 := kb "_law_said" "_law_said" 986 359 1 3 631 989
abbrev k635 := kf (Mine.top 51) "_law_said" "_law_said" jt 634
abbrev k639 := kb "_law_does" "_law_does" 992 361 3 3 636 995
abbrev k640 := kf (Mine.top 52) "_law_does" "_law_does" jt 639
abbrev k644 := kb "_law_other" "_law_other" 998 370 3 3 641 1001
abbrev k645 := kf (Mine.top 53) "_law_other" "_law_other" jt 644
abbrev k649 := kb "_law_links" "_law_links" 1004 381 3 3 646 1007
abbrev k650 := kf (Mine.top 54) "_law_links" "_law_links" jt 649
abbrev k654 := kb "_law_stands" "_law_stands" 1010 389 2 3 651 1013
abbrev k655 := kf (Mine.top 55) "_law_stands" "_law_stands" jt 654
abbrev k659 := kb "law" "law" 1016 400 1 3 656 1019
abbrev k660 := kf (Mine.top 56) "law" "law" jt 659
def myK : Params -> Frag := fun P =>
 (nat_lit 2, { cls := Value.none, data := Data.dict #[] }) ::
 (nat_lit 3, k3 P) ::
 (nat_lit 20, k20) ::
 (nat_lit 21, k21) ::
 (nat_lit 30, k30 P) ::
 (nat_lit 31, k31) ::
 (nat_lit 32, k32) ::
 (nat_lit 47, k47) ::
 (nat_lit 48, k48) ::
 (nat_lit 50, k50 P) ::
 (nat_lit 51, k51) ::
 (nat_lit 66, k66) ::
 (nat_lit 67, k67) ::
 (nat_lit 69, k69 P) ::
 (nat_lit 70, k70) ::
 (nat_lit 85, k85) ::
 (nat_lit 86, k86) ::
 (nat_lit 88, k88 P) ::
 (nat_lit 89, k89) ::
 (nat_lit 104, k104) ::
 (nat_lit 105, k105) ::
 (nat_lit 107, k107 P) ::
 (nat_lit 108, k108) ::
 (nat_lit 123, k123) ::
 (nat_lit 124, k124) ::
 (nat_lit 126, k126 P) ::
 (nat_lit 127, k127) ::
 (nat_lit 142, k142) ::
 (nat_lit 143, k143) ::
 (nat_lit 145, k145 P) ::
 (nat_lit 146, k146) ::
 (nat_lit 152, k152) ::
 (nat_lit 153, k153) ::
 (nat_lit 159, k159) ::
 (nat_lit 160, k160) ::
 (nat_lit 166, k166) ::
 (nat_lit 167, k167) ::
 (nat_lit 171, k171) ::
 (nat_lit 172, k172) ::
 (nat_lit 176, k176) ::
 (nat_lit 177, k177) ::
 (nat_lit 190, k190) ::
 (nat_lit 191, k191) ::
 (nat_lit 195, k195) ::
 (nat_lit 196, k196) ::
 (nat_lit 200, k200) ::
 (nat_lit 201, k201) ::
 (nat_lit 207, k207) ::
 (nat_lit 208, k208) ::
 (nat_lit 212, k212) ::
 (nat_lit 213, k213) ::
 (nat_lit 217, k217) ::
 (nat_lit 218, k218) ::
 (nat_lit 220, k220 P) ::
 (nat_lit 221, k221) ::
 (nat_lit 222, k222) ::
 (nat_lit 223, k223) ::
 (nat_lit 231, k231) ::
 (nat_lit 232, k232) ::
 (nat_lit 238, k238) ::
 (nat_lit 239, k239) ::
 (nat_lit 252, k252) ::
 (nat_lit 253, k253) ::
 (nat_lit 259, k259) ::
 (nat_lit 260, k260) ::
 (nat_lit 266, k266) ::
 (nat_lit 267, k267) ::
 (nat_lit 269, k269 P) ::
 (nat_lit 270, k270) ::
 (nat_lit 271, k271) ::
 (nat_lit 272, k272) ::
 (nat_lit 287, k287) ::
 (nat_lit 288, k288) ::
 (nat_lit 294, k294) ::
 (nat_lit 295, k295) ::
 (nat_lit 301, k301) ::
 (nat_lit 302, k302) ::
 (nat_lit 304, k304 P) ::
 (nat_lit 305, k305) ::
 (nat_lit 320, k320) ::
 (nat_lit 321, k321) ::
 (nat_lit 327, k327) ::
 (nat_lit 328, k328) ::
 (nat_lit 334, k334) ::
 (nat_lit 335, k335) ::
 (nat_lit 337, k337 P) ::
 (nat_lit 338, k338) ::
 (nat_lit 353, k353) ::
 (nat_lit 354, k354) ::
 (nat_lit 360, k360) ::
 (nat_lit 361, k361) ::
 (nat_lit 367, k367) ::
 (nat_lit 368, k368) ::
 (nat_lit 374, k374) ::
 (nat_lit 375, k375) ::
 (nat_lit 377, k377 P) ::
 (nat_lit 378, k378) ::
 (nat_lit 393, k393) ::
 (nat_lit 394, k394) ::
 (nat_lit 400, k400) ::
 (nat_lit 401, k401) ::
 (nat_lit 407, k407) ::
 (nat_lit 408, k408) ::
 (nat_lit 414, k414) ::
 (nat_lit 415, k415) ::
 (nat_lit 417, k417 P) ::
 (nat_lit 418, k418) ::
 (nat_lit 433, k433) ::
 (nat_lit 434, k434) ::
 (nat_lit 440, k440) ::
 (nat_lit 441, k441) ::
 (nat_lit 447, k447) ::
 (nat_lit 448, k448) ::
 (nat_lit 454, k454) ::
 (nat_lit 455, k455) ::
 (nat_lit 457, k457 P) ::
 (nat_lit 458, k458) ::
 (nat_lit 473, k473) ::
 (nat_lit 474, k474) ::
 (nat_lit 480, k480) ::
 (nat_lit 481, k481) ::
 (nat_lit 483, k483 P) ::
 (nat_lit 484, k484) ::
 (nat_lit 492, k492) ::
 (nat_lit 493, k493) ::
 (nat_lit 497, k497) ::
 (nat_lit 498, k498) ::
 (nat_lit 511, k511) ::
 (nat_lit 512, k512) ::
 (nat_lit 516, k516) ::
 (nat_lit 517, k517) ::
 (nat_lit 523, k523) ::
 (nat_lit 524, k524) ::
 (nat_lit 528, k528) ::
 (nat_lit 529, k529) ::
 (nat_lit 531, k531 P) ::
 (nat_lit 532, k532) ::
 (nat_lit 533, k533) ::
 (nat_lit 534, k534) ::
 (nat_lit 542, k542) ::
 (nat_lit 543, k543) ::
 (nat_lit 549, k549) ::
 (nat_lit 550, k550) ::
 (nat_lit 556, k556) ::
 (nat_lit 557, k557) ::
 (nat_lit 561, k561) ::
 (nat_lit 562, k562) ::
 (nat_lit 566, k566) ::
 (nat_lit 567, k567) ::
 (nat_lit 571, k571) ::
 (nat_lit 572, k572) ::
 (nat_lit 578, k578) ::
 (nat_lit 579, k579) ::
 (nat_lit 583, k583) ::
 (nat_lit 584, k584) ::
 (nat_lit 588, k588) ::
 (nat_lit 589, k589) ::
 (nat_lit 595, k595) ::
 (nat_lit 596, k596) ::
 (nat_lit 600, k600) ::
 (nat_lit 601, k601) ::
 (nat_lit 607, k607) ::
 (nat_lit 608, k608) ::
 (nat_lit 612, k612) ::
 (nat_lit 613, k613) ::
 (nat_lit 617, k617) ::
 (nat_lit 618, k618) ::
 (nat_lit 622, k622) ::
 (nat_lit 623, k623) ::
 (nat_lit 629, k629) ::
 (nat_lit 630, k630) ::
 (nat_lit 634, k634) ::
 (nat_lit 635, k635) ::
 (nat_lit 639, k639) ::
 (nat_lit 640, k640) ::
 (nat_lit 644, k644) ::
 (nat_lit 645, k645) ::
 (nat_lit 649, k649) ::
 (nat_lit 650, k650) ::
 (nat_lit 654, k654) ::
 (nat_lit 655, k655) ::
 (nat_lit 659, k659) ::
 (nat_lit 660, k660) ::
 []
end
end Mine
set_option maxHeartbeats 0
namespace Hd
noncomputable section
open PySem PySem.W PySem.Calls PyProof.Rows Mine
noncomputable def put (t : BT) : Nat -> Obj -> BT := BT.rec (motive := fun _ => Nat -> Obj -> BT) (fun _ o => .node o .nil .nil) (fun v l r x y i o => match i with | 0 => .node o l r | j + 1 => bif Nat.beq (j % 2) 0 then .node v (x (j / 2) o) r else .node v l (y (j / 2) o)) t
noncomputable def J8 (t : BT) (l : List (Nat × Obj)) : BT := l.foldl (fun t p => put t p.1 p.2) t
noncomputable def fo (s : Stmt) (n q m : Str) (t c : Nat) : Obj := ⟨.type "function", none, .func { name := n, qualname := q, params := L2.dC s, body := .stmts (L2.bZ s), scope := L2.aB s, globals := 3, closure := [], defaults := .none, kwdefaults := .none, pyModule := .str m t, code := .ref c }, #[]⟩
noncomputable def pf (s : Stmt) (n q : Str) : Obj := ⟨.none, none, .func { name := n, qualname := q, params := L2.dC s, body := .stmts (L2.bZ s), scope := L2.aB s, globals := 0, closure := [], defaults := .none, kwdefaults := .none }, #[]⟩
noncomputable def tu (l : List Value) : Obj := ⟨.type "tuple", none, .seq l.toArray, #[]⟩
def eT : Obj := tu []
def eF : Obj := { cls := .none, data := .fields #[] }
noncomputable def co (n q : Str) (a b c : Nat) (l k : Int) (f r : Nat) (t : Bool) (g : Int) (u : Nat) (x y z : Value) (v : Nat) (m : Int) (e : Nat) : Obj := { cls := .type "code", data := .fields #[.str n a, .str q b, .str "/claim/cut.py" c, .int l 0, .int k 0, .int 0 0, .int 0 0, .int f 0, .ref r, .bool t, .int g 0, .ref u, x, y, z, .ref v, .int m 0, .int l 0, .str "/claim/cut.py" e] }
noncomputable def pl (t : BT) (a : Nat) (l : List Obj) : BT := List.rec (motive := fun _ => BT -> Nat -> BT) (fun t _ => t) (fun o _ f t a => f (put t a o) (a + 1)) l t a
noncomputable def fm (c d : Nat) (m : Value) : Obj := { cls := .type "frame", slots := #[some (.ref c), some (.ref 3), some (.ref d), none, some m, none, some (.ref 0)] }
noncomputable def su (x : Nat) : Obj := { cls := .type "super", data := .fields #[.ref x, .ref x, .ref x] }
noncomputable def ib (x : Nat) : Obj := { cls := .type "builtin_function_or_method", data := .fields #[.builtin "object.__init_subclass__", .ref x] }
noncomputable def cc (n : Str) (a : Nat) (l : Int) (r : Nat) (b : Int) : Obj := { cls := .type "code", data := .fields #[.str n a, .str n (a + 1), .str "/claim/cut.py" (a + 2), .int l 0, .int 0 0, .int 0 0, .int 0 0, .int 0 0, .ref r, .bool false, .int 181 0, .ref (r + 1), .none, .none, .none, .none, .int b 0, .int l 0, .str "/claim/cut.py" (a + 4)] }
noncomputable def di (P : Params) (m : Value) (n : Str) (a : Nat) (l : Int) (r : List DictEntry) (k : Nat) : Obj := { cls := .type "dict", data := .dict (List.toArray (ke P "__module__" a m :: ke P "__qualname__" (a + 2) (.str n (a + 1)) :: ke P "__firstlineno__" (a + 4) (.int l (a + 3)) :: r)) k }
noncomputable def f3 (a b : Int) (c : Nat) (r : List Value) : List Value := .int a 0 :: .int b 0 :: .ref c :: r
noncomputable def fl (l : List Value) : Obj := { cls := .none, data := .fields l.toArray }
noncomputable def tv (t : Nat) (l : List Str) : List Value := List.rec (motive := fun _ => Nat -> List Value) (fun _ => []) (fun x _ f t => .str x t :: f (t + 1)) l t
noncomputable def tw (t : Nat) (l : List Str) : Obj := tu (tv t l)
noncomputable def df (s : Stmt) (n q : Str) (v c f : Obj) (r : List Obj) : List Obj := eT :: eF :: v :: eT :: pf s n q :: c :: f :: r
noncomputable def de (s : Stmt) (n q : Str) (c f : Obj) (r : List Obj) : List Obj := eT :: eF :: pf s n q :: c :: f :: r
def env : Env := { scope := pw_drawhouse_k35_with_and_without.main.scope, locals := mainNs, globals := mainNs, cells := [], code := Value.ref 13, frame := some 14 }
def cE : Code := .body (behindTheImports pw_drawhouse_k35_with_and_without) env
def fr : List Frame := [topFrame { line := 0, col := 0, endLine := 0, endCol := 0 }]
noncomputable def sl (a n : Nat) : List Stmt := ((behindTheImports pw_drawhouse_k35_with_and_without).drop a).take n
def o12 : Obj := fl (f3 1 0 20 (f3 5 0 27 (f3 7 0 40 (f3 12 0 59 (f3 17 0 78 (f3 22 0 97 (f3 27 0 116 (f3 32 0 135 (f3 38 0 152 (f3 41 0 159 (f3 45 0 166 (f3 48 0 171 (f3 50 0 176 (f3 61 0 183 (f3 91 0 231 (f3 98 0 238 (f3 106 0 245 (f3 116 0 280 (f3 127 0 313 (f3 138 0 346 (f3 152 0 386 (f3 166 0 426 (f3 181 0 466 (f3 189 0 492 (f3 196 0 497 (f3 203 0 504 (f3 219 0 542 (f3 223 0 549 (f3 227 0 556 (f3 236 0 561 (f3 249 0 566 (f3 262 0 571 (f3 265 0 578 (f3 273 0 583 (f3 286 0 588 (f3 298 0 595 (f3 314 0 600 (f3 316 0 607 (f3 323 0 612 (f3 325 0 617 (f3 337 0 622 (f3 344 0 629 (f3 359 0 634 (f3 361 0 639 (f3 370 0 644 (f3 381 0 649 (f3 389 0 654 (f3 400 0 659 []))))))))))))))))))))))))))))))))))))))))))))))))
def o23 : Obj := { cls := .type "builtin_function_or_method", data := .fields #[.builtin "type.__prepare__", .type "type"] }
variable (P : Params) (r : List Obj)
def hA0 : List Obj := boot_o_0 P :: boot_o_1 P :: boot_o_2 P :: boot_o_3 P :: boot_o_4 P :: boot_o_5 P :: boot_o_6 P :: boot_o_7 P :: boot_o_8 P :: boot_o_9 P :: boot_o_10 P :: eT :: eF :: cc "<module>" 182 1 11 185 :: fm 13 3 Li :: r
def hA : Heap := ⟨Array.mk (hA0 P []), { }⟩
noncomputable def Lp (w : World) (os : OsState) : Option (Shared × Thread) := topGo treeTable pw_drawhouse_k35_with_and_without w 11 (some (Value.ref 6)) 12 ⟨boot_heap w.params, Array.mk [], boot_drawn, boot_toks, os⟩ (topStub pw_drawhouse_k35_with_and_without)
noncomputable def Rp (w : World) (os : OsState) : Option (Shared × Thread) := some (⟨hA w.params, Array.mk [], { }, nat_lit 187, os⟩, ⟨denote treeTable cE, cE, { line := 0, col := 0, endLine := 0, endCol := 0 }, fr⟩)
theorem rLp : Lp = Lp := rfl
name_quick Lp for Hd.Lp by Hd.rLp
theorem rRp : Rp = Rp := rfl
name_quick Rp for Hd.Rp by Hd.rRp
theorem qp : PySem.W.Fast.Lp = PySem.W.Fast.Rp := by kernel_rfl
theorem ep : Lp = Rp := PySem.W.Fast.Lp_eq.trans (qp.trans PySem.W.Fast.Rp_eq.symm)
def t0 : BT := pl .nil 0 (hA0 P [])
def Lb (w : World) (os : OsState) : Option (Flow × Shared × Code × Pos) := segRun treeTable pw_drawhouse_k35_with_and_without w 11 (some (Value.ref 6)) 1 1 ⟨hA w.params, Array.mk [], { }, nat_lit 187, os⟩ (blockOf (behindTheImports pw_drawhouse_k35_with_and_without) env cE { line := 0, col := 0, endLine := 0, endCol := 0 } fr)
def Rb (w : World) (os : OsState) : Option (Flow × Shared × Code × Pos) := some (.next, SharedT.abs ⟨t0 w.params, nat_lit 15, { }, Array.mk [], { }, nat_lit 187, os⟩, cE, { line := 0, col := 0, endLine := 0, endCol := 0 })
theorem rLb : Lb = Lb := rfl
name_quick Lb for Hd.Lb by Hd.rLb
theorem rRb : Rb = Rb := rfl
name_quick Rb for Hd.Rb by Hd.rRb
theorem qb : PySem.W.Fast.Lb = PySem.W.Fast.Rb := by kernel_rfl
theorem eb : Lb = Rb := PySem.W.Fast.Lb_eq.trans (qb.trans PySem.W.Fast.Rb_eq.symm)
def c0 : List Obj := boot_o_0 P :: boot_o_1 P :: boot_o_2 P :: k3 P :: boot_o_4 P :: boot_o_5 P :: boot_o_6 P :: boot_o_7 P :: boot_o_8 P :: boot_o_9 P :: boot_o_10 P :: eT :: o12 :: cc "<module>" 182 1 11 185 :: fm 13 3 Li :: r
def c15 : List Obj := df (Mine.top 0) "_wall" "_wall" (tw 190 ["k"]) k20 k21 (tu [.type "ValueError"] :: o23 :: di P lR "HouseError" 203 5 [ke P "__static_attributes__" 208 (.ref 29)] 4 :: eT :: eF :: cc "HouseError" 198 5 25 201 :: fm 27 24 lR :: eT :: k30 P :: k31 :: k32 :: su 31 :: ib 31 :: tu [.ref 31] :: r)
def c36 : List Obj := o23 :: di P lR "TooMany" 221 7 [ke P "__init__" 233 (.ref 48), ke P "__static_attributes__" 235 (.ref 49)] 5 :: eT :: fl (f3 9 4 47 []) :: cc "TooMany" 216 7 38 219 :: fm 40 37 lR :: df (Mine.sb 3 0) "__init__" "TooMany.__init__" (tw 229 ["self", "at"]) k47 k48 (tw 234 ["at"] :: k50 P :: k51 :: su 51 :: ib 51 :: tu [.ref 31] :: o23 :: di P lR "Double" 246 12 [ke P "__init__" 258 (.ref 67), ke P "__static_attributes__" 260 (.ref 68)] 5 :: r)
def c57 : List Obj := eT :: fl (f3 14 4 66 []) :: cc "Double" 241 12 57 244 :: fm 59 56 lR :: df (Mine.sb 4 0) "__init__" "Double.__init__" (tw 254 ["self", "at"]) k66 k67 (tw 259 ["at"] :: k69 P :: k70 :: su 70 :: ib 70 :: tu [.ref 31] :: o23 :: di P lR "Orphan" 271 17 [ke P "__init__" 283 (.ref 86), ke P "__static_attributes__" 285 (.ref 87)] 5 :: eT :: fl (f3 19 4 85 []) :: r)
def c78 : List Obj := cc "Orphan" 266 17 76 269 :: fm 78 75 lR :: df (Mine.sb 5 0) "__init__" "Orphan.__init__" (tw 279 ["self", "at"]) k85 k86 (tw 284 ["at"] :: k88 P :: k89 :: su 89 :: ib 89 :: tu [.ref 31] :: o23 :: di P lR "Clash" 296 22 [ke P "__init__" 308 (.ref 105), ke P "__static_attributes__" 310 (.ref 106)] 5 :: eT :: fl (f3 24 4 104 []) :: cc "Clash" 291 22 95 294 :: fm 97 94 lR :: r)
def c99 : List Obj := df (Mine.sb 6 0) "__init__" "Clash.__init__" (tw 304 ["self", "at"]) k104 k105 (tw 309 ["at"] :: k107 P :: k108 :: su 108 :: ib 108 :: tu [.ref 31] :: o23 :: di P lR "NoPart" 321 27 [ke P "__init__" 333 (.ref 124), ke P "__static_attributes__" 335 (.ref 125)] 5 :: eT :: fl (f3 29 4 123 []) :: cc "NoPart" 316 27 114 319 :: fm 116 113 lR :: r)
def Oi : List Obj := df (Mine.sb 7 0) "__init__" "NoPart.__init__" (tw 329 ["self", "address"]) k123 k124 (tw 334 ["address"] :: k126 P :: k127 :: su 127 :: ib 127 :: r)
def t1 : BT := J8 (pl (pl (pl (pl (pl (pl (t0 P) 15 (c15 P [])) 36 (c36 P [])) 57 (c57 P [])) 78 (c78 P [])) 99 (c99 P [])) 118 (Oi P [])) ((3, { cls := .type "dict", data := .dict (List.toArray (ke P "__name__" 165 (.str "drawhouse.errors" 194) :: n0 P ([]))) 16 }) :: (12, fl (f3 1 0 20 (f3 5 0 27 (f3 7 0 40 (f3 12 0 59 (f3 17 0 78 (f3 22 0 97 (f3 27 0 116 [])))))))) :: (31, { cls := .type "type", data := .cls { name := Str.ofString "HouseError", bases := [.type "ValueError"], mro := [.ref 31, .type "ValueError", .type "Exception", .type "BaseException", .type "object"], ns := 30, qualname := Str.ofString "HouseError", subclasses := [.ref 51, .ref 70, .ref 89, .ref 108, .ref 127] }, slots := #[some (.ref 22), none, some (.str "HouseError" 196), some (.str "HouseError" 204), some (.builtin "ValueError.__new__"), some (.bool true)] }) :: [])
def L0 (w : World) (os : OsState) : Option (Flow × SharedT × Code × Pos) := segRunT treeTable pw_drawhouse_k35_with_and_without w 11 (some (Value.ref 6)) 1 1450 ⟨t0 w.params, nat_lit 15, { }, Array.mk [], { }, nat_lit 187, os⟩ (piecesOf (sl 0 8) env cE { line := 0, col := 0, endLine := 0, endCol := 0 } fr)
def R0 (w : World) (os : OsState) : Option (Flow × SharedT × Code × Pos) := some (.next, ⟨t1 w.params, nat_lit 130, { }, Array.mk [], { }, nat_lit 339, os⟩, cE, { line := 27, col := 0, endLine := 31, endCol := 30 })
theorem rL0 : L0 = L0 := rfl
name_quick L0 for Hd.L0 by Hd.rL0
theorem rR0 : R0 = R0 := rfl
name_quick R0 for Hd.R0 by Hd.rR0
theorem q0 : PySem.W.Fast.L0 = PySem.W.Fast.R0 := by kernel_rfl
theorem e0 : L0 = R0 := PySem.W.Fast.L0_eq.trans (q0.trans PySem.W.Fast.R0_eq.symm)
def O8 : List Obj := tu [.ref 31] :: o23 :: di P lR "NoDrop" 346 32 [ke P "__init__" 358 (.ref 143), ke P "__static_attributes__" 360 (.ref 144)] 5 :: eT :: fl (f3 34 4 142 []) :: cc "NoDrop" 341 32 133 344 :: fm 135 132 lR :: df (Mine.sb 8 0) "__init__" "NoDrop.__init__" (tw 354 ["self", "address"]) k142 k143 (tw 359 ["address"] :: k145 P :: k146 :: su 146 :: ib 146 :: r)
def Oo (P : Params) (r : List Obj) : List Obj := de (Mine.top 10) "prefixes" "prefixes" k152 k153 (df (Mine.top 11) "parent_of" "parent_of" (tw 375 ["address"]) k159 k160 (df (Mine.top 14) "is_orphan" "is_orphan" (tw 386 ["part", "addresses", "parent"]) k166 k167 (r)))
def Ot : List Obj := de (Mine.top 15) "is_clash" "is_clash" k171 k172 (de (Mine.top 16) "check_parts" "check_parts" k176 k177 (eT :: o23 :: di P um "House" 411 61 [ke P "__init__" 423 (.ref 191), ke P "addresses" 429 (.ref 196), ke P "has" 435 (.ref 201), ke P "part" 444 (.ref 208), ke P "with_part" 450 (.ref 213), ke P "without" 456 (.ref 218), ke P "__static_attributes__" 458 (.ref 219)] 10 :: eT :: fl (f3 63 4 190 (f3 67 4 195 (f3 70 4 200 (f3 73 4 207 (f3 79 4 212 (f3 84 4 217 [])))))) :: cc "House" 406 61 181 409 :: fm 183 180 um :: r))
def Qo (P : Params) (r : List Obj) : List Obj := df (Mine.sb 17 0) "__init__" "House.__init__" (tw 419 ["self", "parts"]) k190 k191 (de (Mine.sb 17 1) "addresses" "House.addresses" k195 k196 (de (Mine.sb 17 2) "has" "House.has" k200 k201 (r)))
def Qx : List Obj := df (Mine.sb 17 3) "part" "House.part" (tw 439 ["self", "address", "part"]) k207 k208 (de (Mine.sb 17 4) "with_part" "House.with_part" k212 k213 (de (Mine.sb 17 5) "without" "House.without" k217 k218 (tw 457 ["told"] :: k220 P :: k221 :: k222 :: r)))
def Oq : List Obj := k223 :: su 221 :: ib 221 :: df (Mine.top 19) "show_term" "show_term" (tw 471 ["kind", "thing", "path"]) k231 k232 (df (Mine.top 20) "show_expr" "show_expr" (tw 480 ["terms", "shown", "sign", "kind", "thing"]) k238 k239 (eT :: o23 :: di P cW "Row" 497 106 [ke P "binds" 508 (.ref 253), ke P "asked" 515 (.ref 260), ke P "said" 522 (.ref 267), ke P "__static_attributes__" 523 (.ref 268)] 7 :: eT :: r))
def Oe (P : Params) (r : List Obj) : List Obj := fl (f3 108 4 252 (f3 111 4 259 (f3 114 4 266 []))) :: cc "Row" 492 106 243 495 :: fm 245 242 cW :: df (Mine.sb 22 0) "binds" "Row.binds" (tw 505 ["self"]) k252 k253 (df (Mine.sb 22 1) "asked" "Row.asked" (tw 512 ["self"]) k259 k260 (r))
def O7 : List Obj := df (Mine.sb 22 2) "said" "Row.said" (tw 519 ["self"]) k266 k267 (eT :: k269 P :: k270 :: k271 :: k272 :: su 270 :: ib 270 :: tu [.ref 270] :: o23 :: di P cW "Let" 538 116 [ke P "__init__" 551 (.ref 288), ke P "binds" 558 (.ref 295), ke P "said" 565 (.ref 302), ke P "__static_attributes__" 568 (.ref 303)] 7 :: eT :: fl (f3 118 4 287 (f3 122 4 294 (f3 125 4 301 []))) :: cc "Let" 533 116 278 536 :: fm 280 277 cW :: r)
def Om (P : Params) (r : List Obj) : List Obj := df (Mine.sb 23 0) "__init__" "Let.__init__" (tw 546 ["self", "name", "terms"]) k287 k288 (df (Mine.sb 23 1) "binds" "Let.binds" (tw 555 ["self"]) k294 k295 (df (Mine.sb 23 2) "said" "Let.said" (tw 562 ["self"]) k301 k302 (r)))
def Pj : List Obj := tw 566 ["name", "terms"] :: k304 P :: k305 :: su 305 :: ib 305 :: r
def t2 : BT := J8 (pl (pl (pl (pl (pl (pl (pl (pl (pl (pl (t1 P) 130 (O8 P [])) 149 (Oo P [])) 168 (Ot P [])) 185 (Qo P [])) 202 (Qx P [])) 223 (Oq P [])) 244 (Oe P [])) 261 (O7 P [])) 282 (Om P [])) 303 (Pj P [])) ((3, { cls := .type "dict", data := .dict (List.toArray (ke P "__name__" 165 (.str "drawhouse.rows" 488) :: n0 P (n1 P ([])))) 28 }) :: (12, fl (f3 1 0 20 (f3 5 0 27 (f3 7 0 40 (f3 12 0 59 (f3 17 0 78 (f3 22 0 97 (f3 27 0 116 (f3 32 0 135 (f3 38 0 152 (f3 41 0 159 (f3 45 0 166 (f3 48 0 171 (f3 50 0 176 (f3 61 0 183 (f3 91 0 231 (f3 98 0 238 (f3 106 0 245 (f3 116 0 280 []))))))))))))))))))) :: (31, k31) :: (270, { cls := .type "type", data := .cls { name := Str.ofString "Row", bases := [.type "object"], mro := [.ref 270, .type "object"], ns := 269, qualname := Str.ofString "Row", subclasses := [.ref 305] }, slots := #[none, none, some (.str "Row" 490), some (.str "Row" 498), some (.builtin "object.__new__"), some (.bool true)] }) :: [])
def L1 (w : World) (os : OsState) : Option (Flow × SharedT × Code × Pos) := segRunT treeTable pw_drawhouse_k35_with_and_without w 11 (some (Value.ref 6)) 1 1451 ⟨t1 w.params, nat_lit 130, { }, Array.mk [], { }, nat_lit 339, os⟩ (piecesOf (sl 8 16) env cE { line := 27, col := 0, endLine := 31, endCol := 30 } fr)
def R1 (w : World) (os : OsState) : Option (Flow × SharedT × Code × Pos) := some (.next, ⟨t2 w.params, nat_lit 308, { }, Array.mk [], { }, nat_lit 572, os⟩, cE, { line := 116, col := 0, endLine := 126, endCol := 66 })
theorem rL1 : L1 = L1 := rfl
name_quick L1 for Hd.L1 by Hd.rL1
theorem rR1 : R1 = R1 := rfl
name_quick R1 for Hd.R1 by Hd.rR1
theorem q1 : PySem.W.Fast.L1 = PySem.W.Fast.R1 := by kernel_rfl
theorem e1 : L1 = R1 := PySem.W.Fast.L1_eq.trans (q1.trans PySem.W.Fast.R1_eq.symm)
def Pa : List Obj := tu [.ref 270] :: o23 :: di P cW "Deed" 579 127 [ke P "__init__" 592 (.ref 321), ke P "binds" 599 (.ref 328), ke P "said" 606 (.ref 335), ke P "__static_attributes__" 609 (.ref 336)] 7 :: eT :: fl (f3 129 4 320 (f3 133 4 327 (f3 136 4 334 []))) :: cc "Deed" 574 127 311 577 :: fm 313 310 cW :: df (Mine.sb 24 0) "__init__" "Deed.__init__" (tw 587 ["self", "name", "terms"]) k320 k321 (df (Mine.sb 24 1) "binds" "Deed.binds" (tw 596 ["self"]) k327 k328 (r))
def Ol : List Obj := df (Mine.sb 24 2) "said" "Deed.said" (tw 603 ["self"]) k334 k335 (tw 607 ["name", "terms"] :: k337 P :: k338 :: su 338 :: ib 338 :: tu [.ref 270] :: o23 :: di P cW "Draw" 620 138 [ke P "__init__" 633 (.ref 354), ke P "binds" 640 (.ref 361), ke P "asked" 647 (.ref 368), ke P "said" 654 (.ref 375), ke P "__static_attributes__" 657 (.ref 376)] 8 :: eT :: fl (f3 140 4 353 (f3 144 4 360 (f3 147 4 367 (f3 150 4 374 [])))) :: cc "Draw" 615 138 344 618 :: fm 346 343 cW :: r)
def Oj (P : Params) (r : List Obj) : List Obj := df (Mine.sb 25 0) "__init__" "Draw.__init__" (tw 628 ["self", "address", "name"]) k353 k354 (df (Mine.sb 25 1) "binds" "Draw.binds" (tw 637 ["self"]) k360 k361 (df (Mine.sb 25 2) "asked" "Draw.asked" (tw 644 ["self"]) k367 k368 (r)))
def Pz : List Obj := df (Mine.sb 25 3) "said" "Draw.said" (tw 651 ["self"]) k374 k375 (tw 655 ["address", "name"] :: k377 P :: k378 :: su 378 :: ib 378 :: tu [.ref 270] :: o23 :: di P cW "Late" 668 152 [ke P "__init__" 681 (.ref 394), ke P "binds" 688 (.ref 401), ke P "asked" 695 (.ref 408), ke P "said" 702 (.ref 415), ke P "__static_attributes__" 705 (.ref 416)] 8 :: eT :: fl (f3 154 4 393 (f3 158 4 400 (f3 161 4 407 (f3 164 4 414 [])))) :: cc "Late" 663 152 384 666 :: fm 386 383 cW :: r)
def Oc (P : Params) (r : List Obj) : List Obj := df (Mine.sb 26 0) "__init__" "Late.__init__" (tw 676 ["self", "address", "name"]) k393 k394 (df (Mine.sb 26 1) "binds" "Late.binds" (tw 685 ["self"]) k400 k401 (df (Mine.sb 26 2) "asked" "Late.asked" (tw 692 ["self"]) k407 k408 (r)))
def Oh : List Obj := df (Mine.sb 26 3) "said" "Late.said" (tw 699 ["self"]) k414 k415 (tw 703 ["address", "name"] :: k417 P :: k418 :: su 418 :: ib 418 :: tu [.ref 270] :: o23 :: di P cW "Take" 716 166 [ke P "__init__" 730 (.ref 434), ke P "binds" 737 (.ref 441), ke P "asked" 744 (.ref 448), ke P "said" 751 (.ref 455), ke P "__static_attributes__" 755 (.ref 456)] 8 :: eT :: fl (f3 168 4 433 (f3 173 4 440 (f3 176 4 447 (f3 179 4 454 [])))) :: cc "Take" 711 166 424 714 :: fm 426 423 cW :: r)
def O6 (P : Params) (r : List Obj) : List Obj := df (Mine.sb 27 0) "__init__" "Take.__init__" (tw 724 ["self", "word", "address", "name"]) k433 k434 (df (Mine.sb 27 1) "binds" "Take.binds" (tw 734 ["self"]) k440 k441 (df (Mine.sb 27 2) "asked" "Take.asked" (tw 741 ["self"]) k447 k448 (r)))
def QG : List Obj := df (Mine.sb 27 3) "said" "Take.said" (tw 748 ["self"]) k454 k455 (tw 752 ["address", "name", "word"] :: k457 P :: k458 :: su 458 :: ib 458 :: r)
def t3 : BT := J8 (pl (pl (pl (pl (pl (pl (pl (pl (t2 P) 308 (Pa P [])) 329 (Ol P [])) 348 (Oj P [])) 369 (Pz P [])) 388 (Oc P [])) 409 (Oh P [])) 428 (O6 P [])) 449 (QG P [])) ((3, { cls := .type "dict", data := .dict (List.toArray (ke P "__name__" 165 (.str "drawhouse.rows" 488) :: n0 P (n1 P (n2 P ([]))))) 32 }) :: (12, fl (f3 1 0 20 (f3 5 0 27 (f3 7 0 40 (f3 12 0 59 (f3 17 0 78 (f3 22 0 97 (f3 27 0 116 (f3 32 0 135 (f3 38 0 152 (f3 41 0 159 (f3 45 0 166 (f3 48 0 171 (f3 50 0 176 (f3 61 0 183 (f3 91 0 231 (f3 98 0 238 (f3 106 0 245 (f3 116 0 280 (f3 127 0 313 (f3 138 0 346 (f3 152 0 386 (f3 166 0 426 []))))))))))))))))))))))) :: (270, { cls := .type "type", data := .cls { name := Str.ofString "Row", bases := [.type "object"], mro := [.ref 270, .type "object"], ns := 269, qualname := Str.ofString "Row", subclasses := [.ref 305, .ref 338, .ref 378, .ref 418, .ref 458] }, slots := #[none, none, some (.str "Row" 490), some (.str "Row" 498), some (.builtin "object.__new__"), some (.bool true)] }) :: [])
def L2 (w : World) (os : OsState) : Option (Flow × SharedT × Code × Pos) := segRunT treeTable pw_drawhouse_k35_with_and_without w 11 (some (Value.ref 6)) 1 1332 ⟨t2 w.params, nat_lit 308, { }, Array.mk [], { }, nat_lit 572, os⟩ (piecesOf (sl 24 4) env cE { line := 116, col := 0, endLine := 126, endCol := 66 } fr)
def R2 (w : World) (os : OsState) : Option (Flow × SharedT × Code × Pos) := some (.next, ⟨t3 w.params, nat_lit 461, { }, Array.mk [], { }, nat_lit 759, os⟩, cE, { line := 166, col := 0, endLine := 180, endCol := 81 })
theorem rL2 : L2 = L2 := rfl
name_quick L2 for Hd.L2 by Hd.rL2
theorem rR2 : R2 = R2 := rfl
name_quick R2 for Hd.R2 by Hd.rR2
theorem q2 : PySem.W.Fast.L2 = PySem.W.Fast.R2 := by kernel_rfl
theorem e2 : L2 = R2 := PySem.W.Fast.L2_eq.trans (q2.trans PySem.W.Fast.R2_eq.symm)
def Qi : List Obj := tu [.ref 270] :: o23 :: di P cW "Need" 766 181 [ke P "__init__" 778 (.ref 474), ke P "said" 785 (.ref 481), ke P "__static_attributes__" 787 (.ref 482)] 6 :: eT :: fl (f3 183 4 473 (f3 186 4 480 [])) :: cc "Need" 761 181 464 764 :: fm 466 463 cW :: df (Mine.sb 28 0) "__init__" "Need.__init__" (tw 774 ["self", "terms"]) k473 k474 (df (Mine.sb 28 1) "said" "Need.said" (tw 782 ["self"]) k480 k481 (r))
def PQ : List Obj := tw 786 ["terms"] :: k483 P :: k484 :: su 484 :: ib 484 :: df (Mine.top 30) "named_by" "named_by" (tw 796 ["row", "named", "address"]) k492 k493 (de (Mine.top 31) "links" "links" k497 k498 (eT :: o23 :: di P Fp "Part" 817 203 [ke P "__init__" 830 (.ref 512), ke P "bound" 836 (.ref 517), ke P "place_of" 844 (.ref 524), ke P "text" 850 (.ref 529), ke P "__static_attributes__" 853 (.ref 530)] 8 :: eT :: r))
def Ob (P : Params) (r : List Obj) : List Obj := fl (f3 205 4 511 (f3 209 4 516 (f3 213 4 523 (f3 216 4 528 [])))) :: cc "Part" 812 203 502 815 :: fm 504 501 Fp :: df (Mine.sb 33 0) "__init__" "Part.__init__" (tw 825 ["self", "address", "rows"]) k511 k512 (de (Mine.sb 33 1) "bound" "Part.bound" k516 k517 (r))
def Qf : List Obj := df (Mine.sb 33 2) "place_of" "Part.place_of" (tw 840 ["self", "name"]) k523 k524 (de (Mine.sb 33 3) "text" "Part.text" k528 k529 (tw 851 ["address", "rows"] :: k531 P :: k532 :: k533 :: k534 :: su 532 :: ib 532 :: r))
def Qy (P : Params) (r : List Obj) : List Obj := df (Mine.top 35) "_law_cell" "_law_cell" (tw 866 ["_law_script", "_law_k"]) k542 k543 (df (Mine.top 36) "_law_sub" "_law_sub" (tw 874 ["_law_cell_here", "_law_j"]) k549 k550 (df (Mine.top 37) "_law_pick" "_law_pick" (tw 882 ["_law_cell_here", "_law_k", "_law_many", "_law_great", "_law_by", "_law_one"]) k556 k557 (r)))
def Pu (P : Params) (r : List Obj) : List Obj := de (Mine.top 38) "_law_words" "_law_words" k561 k562 (de (Mine.top 39) "_law_addresses" "_law_addresses" k566 k567 (de (Mine.top 40) "_law_prefixes" "_law_prefixes" k571 k572 (r)))
def Qm (P : Params) (r : List Obj) : List Obj := df (Mine.top 41) "_law_asked" "_law_asked" (tw 912 ["_law_cell_here", "_law_addresses_here", "_law_words_here", "_law_address", "_law_word_here"]) k578 k579 (de (Mine.top 42) "_law_drawn" "_law_drawn" k583 k584 (de (Mine.top 43) "_law_rows" "_law_rows" k588 k589 (r)))
def Pr (P : Params) (r : List Obj) : List Obj := df (Mine.top 44) "_law_row" "_law_row" (tw 935 ["_law_row_here", "_law_sort", "_law_name", "_law_address", "_law_word_here", "_law_terms"]) k595 k596 (de (Mine.top 45) "_law_parts" "_law_parts" k600 k601 (df (Mine.top 46) "_law_made" "_law_made" (tw 953 ["_law_script", "_law_words_here", "_law_many", "_law_addresses_here"]) k607 k608 (r)))
def O4 (P : Params) (r : List Obj) : List Obj := de (Mine.top 47) "_law_names" "_law_names" k612 k613 (de (Mine.top 48) "_law_due" "_law_due" k617 k618 (de (Mine.top 49) "_law_less" "_law_less" k622 k623 (r)))
def Qd (P : Params) (r : List Obj) : List Obj := df (Mine.top 50) "_law_word" "_law_word" (tw 981 ["_law_e", "_law_found"]) k629 k630 (de (Mine.top 51) "_law_said" "_law_said" k634 k635 (de (Mine.top 52) "_law_does" "_law_does" k639 k640 (r)))
def O3 (P : Params) (r : List Obj) : List Obj := de (Mine.top 53) "_law_other" "_law_other" k644 k645 (de (Mine.top 54) "_law_links" "_law_links" k649 k650 (de (Mine.top 55) "_law_stands" "_law_stands" k654 k655 (de (Mine.top 56) "law" "law" k659 k660 (r))))
def t4 : BT := J8 (pl (pl (pl (pl (pl (pl (pl (pl (pl (pl (pl (t3 P) 461 (Qi P [])) 482 (PQ P [])) 503 (Ob P [])) 518 (Qf P [])) 537 (Qy P [])) 558 (Pu P [])) 573 (Qm P [])) 590 (Pr P [])) 609 (O4 P [])) 624 (Qd P [])) 641 (O3 P [])) ((3, k3 P) :: (12, o12) :: (270, k270) :: [])
def L3 (w : World) (os : OsState) : Option (Flow × SharedT × Code × Pos) := segRunT treeTable pw_drawhouse_k35_with_and_without w 11 (some (Value.ref 6)) 1 1286 ⟨t3 w.params, nat_lit 461, { }, Array.mk [], { }, nat_lit 759, os⟩ (piecesOf (sl 28 29) env cE { line := 166, col := 0, endLine := 180, endCol := 81 } fr)
def R3 (w : World) (os : OsState) : Option (Flow × SharedT × Code × Pos) := some (.next, ⟨t4 w.params, nat_lit 661, { }, Array.mk [], { }, nat_lit 1022, os⟩, cE, { line := 400, col := 0, endLine := 426, endCol := 15 })
theorem rL3 : L3 = L3 := rfl
name_quick L3 for Hd.L3 by Hd.rL3
theorem rR3 : R3 = R3 := rfl
name_quick R3 for Hd.R3 by Hd.rR3
theorem q3 : PySem.W.Fast.L3 = PySem.W.Fast.R3 := by kernel_rfl
theorem e3 : L3 = R3 := PySem.W.Fast.L3_eq.trans (q3.trans PySem.W.Fast.R3_eq.symm)
def hF : Heap := ⟨Array.mk (c0 P (c15 P (c36 P (c57 P (c78 P (c99 P (Oi P (O8 P (Oo P (Ot P (Qo P (Qx P (Oq P (Oe P (O7 P (Om P (Pj P (Pa P (Ol P (Oj P (Pz P (Oc P (Oh P (O6 P (QG P (Qi P (PQ P (Ob P (Qf P (Qy P (Pu P (Qm P (Pr P (O4 P (Qd P (O3 P ([]))))))))))))))))))))))))))))))))))))), { }⟩
def Lf (w : World) (os : OsState) : Option Shared := topRun treeTable pw_drawhouse_k35_with_and_without w 11 (some (Value.ref 6)) 2 (SharedT.abs ⟨t4 w.params, nat_lit 661, { }, Array.mk [], { }, nat_lit 1022, os⟩) ⟨doneF .next, cE, { line := 400, col := 0, endLine := 426, endCol := 15 }, fr⟩
def Rf (w : World) (os : OsState) : Option Shared := some ⟨hF w.params, Array.mk [], { }, nat_lit 1022, os⟩
theorem rLf : Lf = Lf := rfl
name_quick Lf for Hd.Lf by Hd.rLf
theorem rRf : Rf = Rf := rfl
name_quick Rf for Hd.Rf by Hd.rRf
theorem qf : PySem.W.Fast.Lf = PySem.W.Fast.Rf := by kernel_rfl
theorem ef : Lf = Rf := PySem.W.Fast.Lf_eq.trans (qf.trans PySem.W.Fast.Rf_eq.symm)
theorem ed : (behindTheImports pw_drawhouse_k35_with_and_without).drop 57 = [] := by kernel_rfl
theorem pd {w : World} {k m n N : Nat} {s s' r : Shared} {c : Code} {pos p' : Pos} (h : segRun treeTable pw_drawhouse_k35_with_and_without w 11 (some (Value.ref 6)) 1 n s (piecesOf (sl k m) env c pos fr) = some (.next, s', c, p'))
  (k2 : topRun treeTable pw_drawhouse_k35_with_and_without w 11 (some (Value.ref 6)) N s' (restOf ((behindTheImports pw_drawhouse_k35_with_and_without).drop (k + m)) env c p' fr) = some r) : topRun treeTable pw_drawhouse_k35_with_and_without w 11 (some (Value.ref 6)) (n + N) s (restOf ((behindTheImports pw_drawhouse_k35_with_and_without).drop k) env c pos fr) = some r := by
 have z := piece_app h k2
 have e : sl k m ++ (behindTheImports pw_drawhouse_k35_with_and_without).drop (k + m) = (behindTheImports pw_drawhouse_k35_with_and_without).drop k := by
  unfold sl
  rw [<- List.drop_drop]
  exact List.take_append_drop m _
 rwa [e] at z
theorem run (w : World) (os : OsState) : topRun treeTable pw_drawhouse_k35_with_and_without w 11 (some (Value.ref 6)) (12 + (1 + (1450 + (1451 + (1332 + (1286 + (2))))))) ⟨boot_heap w.params, Array.mk [], boot_drawn, boot_toks, os⟩ (topStub pw_drawhouse_k35_with_and_without) = some ⟨hF w.params, Array.mk [], { }, nat_lit 1022, os⟩ :=
 go_top (congrFun (congrFun ep w) os) (piece_block (congrFun (congrFun eb w) os)
  (pd (k := 0) (m := 8) (segRun_of (congrFun (congrFun e0 w) os))
  (pd (k := 8) (m := 16) (segRun_of (congrFun (congrFun e1 w) os))
  (pd (k := 24) (m := 4) (segRun_of (congrFun (congrFun e2 w) os))
  (pd (k := 28) (m := 29) (segRun_of (congrFun (congrFun e3 w) os))
  (by rw [show 28 + 29 = 57 from rfl, ed]; exact piece_nil (congrFun (congrFun ef w) os)))))))
def qv : Program := { pw_drawhouse_k35_with_and_without with main := { pw_drawhouse_k35_with_and_without.main with body := (0 :: 2 :: 3 :: 4 :: 5 :: 6 :: 7 :: 8 :: 10 :: 11 :: 13 :: 14 :: 15 :: 16 :: 17 :: 19 :: 20 :: 22 :: 23 :: 24 :: 25 :: 26 :: 27 :: 28 :: 30 :: 31 :: 33 :: 35 :: 36 :: 37 :: 38 :: 39 :: 40 :: 41 :: 42 :: 43 :: 44 :: 45 :: 46 :: 47 :: 48 :: 49 :: 50 :: 51 :: 52 :: 53 :: 54 :: 55 :: 56 :: []).filterMap fun i => pw_drawhouse_k35_with_and_without.main.body[i]? } }
def loose : List Str := []
def lv : List (Str × WData) := []
def xt (s : Shared) : Bool := xlAt qv lv s && recOk (RowW.records (OpenRow.toRowW (OpenLaw.row rw_drawhouse_k35_with_and_without))) s
def as : List Addr := nat_lit 2 :: nat_lit 3 :: nat_lit 20 :: nat_lit 21 :: nat_lit 30 :: nat_lit 31 :: nat_lit 32 :: nat_lit 47 :: nat_lit 48 :: nat_lit 50 :: nat_lit 51 :: nat_lit 66 :: nat_lit 67 :: nat_lit 69 :: nat_lit 70 :: nat_lit 85 :: nat_lit 86 :: nat_lit 88 :: nat_lit 89 :: nat_lit 104 :: nat_lit 105 :: nat_lit 107 :: nat_lit 108 :: nat_lit 123 :: nat_lit 124 :: nat_lit 126 :: nat_lit 127 :: nat_lit 142 :: nat_lit 143 :: nat_lit 145 :: nat_lit 146 :: nat_lit 152 :: nat_lit 153 :: nat_lit 159 :: nat_lit 160 :: nat_lit 166 :: nat_lit 167 :: nat_lit 171 :: nat_lit 172 :: nat_lit 176 :: nat_lit 177 :: nat_lit 190 :: nat_lit 191 :: nat_lit 195 :: nat_lit 196 :: nat_lit 200 :: nat_lit 201 :: nat_lit 207 :: nat_lit 208 :: nat_lit 212 :: nat_lit 213 :: nat_lit 217 :: nat_lit 218 :: nat_lit 220 :: nat_lit 221 :: nat_lit 222 :: nat_lit 223 :: nat_lit 231 :: nat_lit 232 :: nat_lit 238 :: nat_lit 239 :: nat_lit 252 :: nat_lit 253 :: nat_lit 259 :: nat_lit 260 :: nat_lit 266 :: nat_lit 267 :: nat_lit 269 :: nat_lit 270 :: nat_lit 271 :: nat_lit 272 :: nat_lit 287 :: nat_lit 288 :: nat_lit 294 :: nat_lit 295 :: nat_lit 301 :: nat_lit 302 :: nat_lit 304 :: nat_lit 305 :: nat_lit 320 :: nat_lit 321 :: nat_lit 327 :: nat_lit 328 :: nat_lit 334 :: nat_lit 335 :: nat_lit 337 :: nat_lit 338 :: nat_lit 353 :: nat_lit 354 :: nat_lit 360 :: nat_lit 361 :: nat_lit 367 :: nat_lit 368 :: nat_lit 374 :: nat_lit 375 :: nat_lit 377 :: nat_lit 378 :: nat_lit 393 :: nat_lit 394 :: nat_lit 400 :: nat_lit 401 :: nat_lit 407 :: nat_lit 408 :: nat_lit 414 :: nat_lit 415 :: nat_lit 417 :: nat_lit 418 :: nat_lit 433 :: nat_lit 434 :: nat_lit 440 :: nat_lit 441 :: nat_lit 447 :: nat_lit 448 :: nat_lit 454 :: nat_lit 455 :: nat_lit 457 :: nat_lit 458 :: nat_lit 473 :: nat_lit 474 :: nat_lit 480 :: nat_lit 481 :: nat_lit 483 :: nat_lit 484 :: nat_lit 492 :: nat_lit 493 :: nat_lit 497 :: nat_lit 498 :: nat_lit 511 :: nat_lit 512 :: nat_lit 516 :: nat_lit 517 :: nat_lit 523 :: nat_lit 524 :: nat_lit 528 :: nat_lit 529 :: nat_lit 531 :: nat_lit 532 :: nat_lit 533 :: nat_lit 534 :: nat_lit 542 :: nat_lit 543 :: nat_lit 549 :: nat_lit 550 :: nat_lit 556 :: nat_lit 557 :: nat_lit 561 :: nat_lit 562 :: nat_lit 566 :: nat_lit 567 :: nat_lit 571 :: nat_lit 572 :: nat_lit 578 :: nat_lit 579 :: nat_lit 583 :: nat_lit 584 :: nat_lit 588 :: nat_lit 589 :: nat_lit 595 :: nat_lit 596 :: nat_lit 600 :: nat_lit 601 :: nat_lit 607 :: nat_lit 608 :: nat_lit 612 :: nat_lit 613 :: nat_lit 617 :: nat_lit 618 :: nat_lit 622 :: nat_lit 623 :: nat_lit 629 :: nat_lit 630 :: nat_lit 634 :: nat_lit 635 :: nat_lit 639 :: nat_lit 640 :: nat_lit 644 :: nat_lit 645 :: nat_lit 649 :: nat_lit 650 :: nat_lit 654 :: nat_lit 655 :: nat_lit 659 :: nat_lit 660 :: []
theorem ke (P : Params) : as = (Mine.myK P).map (·.1) := by kernel_rfl
def Ls (w : World) : Bool × Nat × Option Value := ((boot_heap w.params).isNs mainGlobals && (Array.mk [] : Array GenState).size == 0, (boot_heap w.params).objs.size, (boot_heap w.params).nsMap mainGlobals "__annotations__")
def Rs (w : World) : Bool × Nat × Option Value := (true, 11, some (Value.ref 6))
theorem es : Ls = Rs := by kernel_rfl
def Lk0 (w : World) (os : OsState) : Bool := staticsOk (importedModules pw_drawhouse_k35_with_and_without.main.body) (boot_heap w.params) (hF w.params) && namesBound pw_drawhouse_k35_with_and_without (hF w.params) && gensDone ⟨hF w.params, Array.mk [], { }, nat_lit 1022, os⟩ && laidKept (boot_heap w.params) (hF w.params)
def Rk0 (_ : World) (_ : OsState) : Bool := true
theorem rLk0 : Lk0 = Lk0 := rfl
name_quick Lk0 for Hd.Lk0 by Hd.rLk0
theorem qk0 : PySem.W.Fast.Lk0 = Rk0 := by kernel_rfl
theorem ek0 : Lk0 = Rk0 := PySem.W.Fast.Lk0_eq.trans qk0
def Lk1 (w : World) (os : OsState) := (openSeen qv loose (importedModules pw_drawhouse_k35_with_and_without.main.body) xt true ⟨hF w.params, Array.mk [], { }, nat_lit 1022, os⟩).1
def Rk1 (_ : World) (_ : OsState) := (openGood qv loose).1
theorem rLk1 : Lk1 = Lk1 := rfl
name_quick Lk1 for Hd.Lk1 by Hd.rLk1
theorem rRk1 : Rk1 = Rk1 := rfl
name_quick Rk1 for Hd.Rk1 by Hd.rRk1
theorem qk1 : PySem.W.Fast.Lk1 = PySem.W.Fast.Rk1 := by kernel_rfl
theorem ek1 : Lk1 = Rk1 := PySem.W.Fast.Lk1_eq.trans (qk1.trans PySem.W.Fast.Rk1_eq.symm)
def Lk2 (w : World) (os : OsState) := (openSeen qv loose (importedModules pw_drawhouse_k35_with_and_without.main.body) xt true ⟨hF w.params, Array.mk [], { }, nat_lit 1022, os⟩).2.1
def Rk2 (_ : World) (_ : OsState) := (openGood qv loose).2.1
theorem rLk2 : Lk2 = Lk2 := rfl
name_quick Lk2 for Hd.Lk2 by Hd.rLk2
theorem qk2 : PySem.W.Fast.Lk2 = Rk2 := by kernel_rfl
theorem ek2 : Lk2 = Rk2 := PySem.W.Fast.Lk2_eq.trans qk2
def Lk3 (w : World) (os : OsState) := (openSeen qv loose (importedModules pw_drawhouse_k35_with_and_without.main.body) xt true ⟨hF w.params, Array.mk [], { }, nat_lit 1022, os⟩).2.2.1
def Rk3 (_ : World) (_ : OsState) := (openGood qv loose).2.2.1
theorem rLk3 : Lk3 = Lk3 := rfl
name_quick Lk3 for Hd.Lk3 by Hd.rLk3
theorem qk3 : PySem.W.Fast.Lk3 = Rk3 := by kernel_rfl
theorem ek3 : Lk3 = Rk3 := PySem.W.Fast.Lk3_eq.trans qk3
def Lk4 (w : World) (os : OsState) := (openSeen qv loose (importedModules pw_drawhouse_k35_with_and_without.main.body) xt true ⟨hF w.params, Array.mk [], { }, nat_lit 1022, os⟩).2.2.2.1
def Rk4 (_ : World) (_ : OsState) := (openGood qv loose).2.2.2.1
theorem rLk4 : Lk4 = Lk4 := rfl
name_quick Lk4 for Hd.Lk4 by Hd.rLk4
theorem qk4 : PySem.W.Fast.Lk4 = Rk4 := by kernel_rfl
theorem ek4 : Lk4 = Rk4 := PySem.W.Fast.Lk4_eq.trans qk4
def Lk5 (w : World) (os : OsState) := (openSeen qv loose (importedModules pw_drawhouse_k35_with_and_without.main.body) xt true ⟨hF w.params, Array.mk [], { }, nat_lit 1022, os⟩).2.2.2.2.1
def Rk5 (_ : World) (_ : OsState) := (openGood qv loose).2.2.2.2.1
theorem rLk5 : Lk5 = Lk5 := rfl
name_quick Lk5 for Hd.Lk5 by Hd.rLk5
theorem rRk5 : Rk5 = Rk5 := rfl
name_quick Rk5 for Hd.Rk5 by Hd.rRk5
theorem qk5 : PySem.W.Fast.Lk5 = PySem.W.Fast.Rk5 := by kernel_rfl
theorem ek5 : Lk5 = Rk5 := PySem.W.Fast.Lk5_eq.trans (qk5.trans PySem.W.Fast.Rk5_eq.symm)
def Lk6 (w : World) (os : OsState) := (openSeen qv loose (importedModules pw_drawhouse_k35_with_and_without.main.body) xt true ⟨hF w.params, Array.mk [], { }, nat_lit 1022, os⟩).2.2.2.2.2.1
def Rk6 (_ : World) (_ : OsState) := (openGood qv loose).2.2.2.2.2.1
theorem rLk6 : Lk6 = Lk6 := rfl
name_quick Lk6 for Hd.Lk6 by Hd.rLk6
theorem rRk6 : Rk6 = Rk6 := rfl
name_quick Rk6 for Hd.Rk6 by Hd.rRk6
theorem qk6 : PySem.W.Fast.Lk6 = PySem.W.Fast.Rk6 := by kernel_rfl
theorem ek6 : Lk6 = Rk6 := PySem.W.Fast.Lk6_eq.trans (qk6.trans PySem.W.Fast.Rk6_eq.symm)
def Lk7 (w : World) (os : OsState) := (openSeen qv loose (importedModules pw_drawhouse_k35_with_and_without.main.body) xt true ⟨hF w.params, Array.mk [], { }, nat_lit 1022, os⟩).2.2.2.2.2.2.1
def Rk7 (_ : World) (_ : OsState) := (openGood qv loose).2.2.2.2.2.2.1
theorem rLk7 : Lk7 = Lk7 := rfl
name_quick Lk7 for Hd.Lk7 by Hd.rLk7
theorem rRk7 : Rk7 = Rk7 := rfl
name_quick Rk7 for Hd.Rk7 by Hd.rRk7
theorem qk7 : PySem.W.Fast.Lk7 = PySem.W.Fast.Rk7 := by kernel_rfl
theorem ek7 : Lk7 = Rk7 := PySem.W.Fast.Lk7_eq.trans (qk7.trans PySem.W.Fast.Rk7_eq.symm)
def Lk8 (w : World) (os : OsState) := (openSeen qv loose (importedModules pw_drawhouse_k35_with_and_without.main.body) xt true ⟨hF w.params, Array.mk [], { }, nat_lit 1022, os⟩).2.2.2.2.2.2.2.1
def Rk8 (_ : World) (_ : OsState) := (openGood qv loose).2.2.2.2.2.2.2.1
theorem rLk8 : Lk8 = Lk8 := rfl
name_quick Lk8 for Hd.Lk8 by Hd.rLk8
theorem rRk8 : Rk8 = Rk8 := rfl
name_quick Rk8 for Hd.Rk8 by Hd.rRk8
theorem qk8 : PySem.W.Fast.Lk8 = PySem.W.Fast.Rk8 := by kernel_rfl
theorem ek8 : Lk8 = Rk8 := PySem.W.Fast.Lk8_eq.trans (qk8.trans PySem.W.Fast.Rk8_eq.symm)
def Lk9 (w : World) (os : OsState) := (openSeen qv loose (importedModules pw_drawhouse_k35_with_and_without.main.body) xt true ⟨hF w.params, Array.mk [], { }, nat_lit 1022, os⟩).2.2.2.2.2.2.2.2
def Rk9 (_ : World) (_ : OsState) := (openGood qv loose).2.2.2.2.2.2.2.2
theorem rLk9 : Lk9 = Lk9 := rfl
name_quick Lk9 for Hd.Lk9 by Hd.rLk9
theorem rRk9 : Rk9 = Rk9 := rfl
name_quick Rk9 for Hd.Rk9 by Hd.rRk9
theorem qk9 : PySem.W.Fast.Lk9 = PySem.W.Fast.Rk9 := by kernel_rfl
theorem ek9 : Lk9 = Rk9 := PySem.W.Fast.Lk9_eq.trans (qk9.trans PySem.W.Fast.Rk9_eq.symm)
def QT (w : World) (_ : OsState) : List (Option Obj) := as.map (hF w.params).get?
def QK (w : World) (_ : OsState) : List (Option Obj) := (Mine.myK w.params).map fun p => some p.2
theorem Q3 : QT = QK := by kernel_rfl
theorem c {α : Type} {f g : World -> OsState -> α} (h : f = g) {w : World} {os : OsState} : f w os = g w os := h ▸ rfl
theorem ek (w : World) : (fun os => ((staticsOk (importedModules pw_drawhouse_k35_with_and_without.main.body) (boot_heap w.params) (hF w.params) && namesBound pw_drawhouse_k35_with_and_without (hF w.params) && gensDone ⟨hF w.params, Array.mk [], { }, nat_lit 1022, os⟩ && laidKept (boot_heap w.params) (hF w.params)), openSeen qv loose (importedModules pw_drawhouse_k35_with_and_without.main.body) xt true ⟨hF w.params, Array.mk [], { }, nat_lit 1022, os⟩, Hook.obs (kHook Mine.myK as ke) ⟨hF w.params, Array.mk [], { }, nat_lit 1022, os⟩)) = fun _ => (true, openGood qv loose, Hook.val (kHook Mine.myK as ke) w) :=
 funext fun os => Prod.ext (congrFun (congrFun ek0 w) os) (Prod.ext (Prod.ext (c ek1) (Prod.ext (c ek2) (Prod.ext (c ek3) (Prod.ext (c ek4) (Prod.ext (c ek5) (Prod.ext (c ek6) (Prod.ext (c ek7) (Prod.ext (c ek8) (c ek9))))))))) (congrFun (congrFun Q3 w) os))
theorem op : opening pw_drawhouse_k35_with_and_without = plainProg pw_drawhouse_k35_with_and_without.main.scope.names := by kernel_rfl
theorem fn (s : Shared) : fenceModules? pw_drawhouse_k35_with_and_without s = some s := by kernel_rfl
theorem left : LeftO pw_drawhouse_k35_with_and_without qv loose xt (Hook.obs (kHook Mine.myK as ke)) (Hook.val (kHook Mine.myK as ke)) 11156 true := by
 refine LeftO.of_pieces (boot_open op rfl fn) (congrFun es) run rfl ek
end
end Hd
open PySem PySem.W PyProof.Rows
set_option maxRecDepth 100000 in
set_option maxHeartbeats 0 in
theorem PySem.Challenge.cw_drawhouse_k35_with_and_without_holds : PySem.Challenge.rw_drawhouse_k35_with_and_without.Holds := by
 w_on; o_law
 refine holds_open (r := OpenLaw.row rw_drawhouse_k35_with_and_without) (q := Hd.qv) (loose := Hd.loose) (Xt := Hd.xt) (XP := XL Hd.qv Hd.lv) (Yf := Hook.obs (kHook Mine.myK Hd.as Hd.ke)) (Ya := Hook.val (kHook Mine.myK Hd.as Hd.ke))
  (YP := Hook.says (kHook Mine.myK Hd.as Hd.ke)) Hd.left (Hook.of (kHook Mine.myK Hd.as Hd.ke)) (Hook.keeps (kHook Mine.myK Hd.as Hd.ke)) (fun s e => xl_of s (Bool.and_eq_true_iff.mp e).1) XL.keeps Z3 Z3 Z3
  (fun s e => recFacts_of (Bool.and_eq_true_iff.mp e).2) rfl (by assumption) Z4 ⟨rfl, rfl, rfl, rfl, rfl, Z4⟩ ?hw ?hc
 (case hw => w_witness2)
 k_fill
 refine Mine.walk (l := rw_drawhouse_k35_with_and_without) rfl rfl (fun w h Y => PySem.W.kIn_of Y) ?F
 case F =>
  intro w mg fa h KX G hmg
  refine' Mine.Nq KX G hmg (Mine.fi ?_ ?_ ?_ ?_) (Mine.fi ?_ ?_ ?_ ?_) (Mine.fi ?_ ?_ ?_ ?_) (Mine.fi ?_ ?_ ?_ ?_) (Mine.fi ?_ ?_ ?_ ?_) (Mine.fi ?_ ?_ ?_ ?_) (Mine.fi ?_ ?_ ?_ ?_) (Mine.fi ?_ ?_ ?_ ?_) (Mine.fi ?_ ?_ ?_ ?_) (Mine.fi ?_ ?_ ?_ ?_) (Mine.fi ?_ ?_ ?_ ?_) (Mine.fi ?_ ?_ ?_ ?_) (Mine.fi ?_ ?_ ?_ ?_) (Mine.fi ?_ ?_ ?_ ?_) (Mine.fi ?_ ?_ ?_ ?_) (Mine.fi ?_ ?_ ?_ ?_) (Mine.fi ?_ ?_ ?_ ?_) (Mine.fi ?_ ?_ ?_ ?_) (Mine.fi ?_ ?_ ?_ ?_) (Mine.fi ?_ ?_ ?_ ?_) (Mine.fi ?_ ?_ ?_ ?_) (Mine.fi ?_ ?_ ?_ ?_) (Mine.fi ?_ ?_ ?_ ?_) (Mine.fi ?_ ?_ ?_ ?_) (Mine.fi ?_ ?_ ?_ ?_) (Mine.fi ?_ ?_ ?_ ?_) (Mine.fi ?_ ?_ ?_ ?_) (Mine.fi ?_ ?_ ?_ ?_) (Mine.fi ?_ ?_ ?_ ?_) (Mine.fi ?_ ?_ ?_ ?_) (Mine.fi ?_ ?_ ?_ ?_) ⟨?_, ?_, ?_, ?_, ?_, ?_, ?_, ?_, ?_, ?_, ?_⟩ ⟨?_, ?_, ?_, ?_, ?_, ?_, ?_, ?_, ?_, ?_, ?_⟩ ⟨?_, ?_, ?_, ?_, ?_, ?_, ?_, ?_, ?_, ?_, ?_⟩ ⟨?_, ?_, ?_, ?_, ?_, ?_, ?_, ?_, ?_, ?_, ?_⟩ ⟨?_, ?_, ?_, ?_, ?_, ?_, ?_, ?_, ?_, ?_, ?_⟩ ⟨?_, ?_, ?_, ?_, ?_, ?_, ?_, ?_, ?_, ?_, ?_⟩ ⟨?_, ?_, ?_, ?_, ?_, ?_, ?_, ?_, ?_, ?_, ?_⟩ ⟨?_, ?_, ?_, ?_, ?_, ?_, ?_, ?_, ?_, ?_, ?_⟩ ⟨?_, ?_, ?_, ?_, ?_, ?_, ?_, ?_, ?_, ?_, ?_⟩ ?_ ?_ ?_ ?_ ?_ ?_ ?_ ?_ ?_ ?_ ?_ ?_ ?_ ?_ ?_ ?_ ?_ ?_ ?_ ?_ ?_ ?_ ?_ ?_ ?_ ?_ ?_ ?_ ?_ ?_ ?_ ?_ ?_ ?_ ?_ ?_ ?_ ?_ ?_ ?_ ?_ ?_ ?_ ?_ ?_ ?_ ?_ ?_ ?_ ?_ ?_ ?_ ?_ ?_ ?_ ?_ ?_ ?_ ?_ ?_ ?_ ?_ ?_ ?_ ?_ ?_ ?_ ?_ ?_ ?_ ?_ ?_ ?_ ?_ (Mine.mi ?_ ?_ ?_ ?_) ?_ (Mine.mi ?_ ?_ ?_ ?_) ?_ (Mine.mi ?_ ?_ ?_ ?_) ?_ (Mine.mi ?_ ?_ ?_ ?_) ?_ (Mine.mi ?_ ?_ ?_ ?_) ?_ (Mine.mi ?_ ?_ ?_ ?_) ?_ ?_ (Mine.mi ?_ ?_ ?_ ?_) ?_ ?_ ?_ ?_ (Mine.mi ?_ ?_ ?_ ?_) ?_ (Mine.mi ?_ ?_ ?_ ?_) ?_ (Mine.mi ?_ ?_ ?_ ?_) ?_ (Mine.mi ?_ ?_ ?_ ?_) ?_ (Mine.mi ?_ ?_ ?_ ?_) ?_ (Mine.mi ?_ ?_ ?_ ?_) ?_ (Mine.mi ?_ ?_ ?_ ?_) ?_ (Mine.mi ?_ ?_ ?_ ?_) ?_ (Mine.mi ?_ ?_ ?_ ?_) ?_ (Mine.mi ?_ ?_ ?_ ?_) ?_ (Mine.mi ?_ ?_ ?_ ?_) ?_ (Mine.mi ?_ ?_ ?_ ?_) ?_ (Mine.mi ?_ ?_ ?_ ?_) ?_ (Mine.mi ?_ ?_ ?_ ?_) ?_ (Mine.mi ?_ ?_ ?_ ?_) ?_ (Mine.mi ?_ ?_ ?_ ?_) ?_ (Mine.mi ?_ ?_ ?_ ?_) ?_ (Mine.mi ?_ ?_ ?_ ?_) ?_ (Mine.mi ?_ ?_ ?_ ?_) ?_ (Mine.mi ?_ ?_ ?_ ?_) ?_ (Mine.mi ?_ ?_ ?_ ?_) ?_ (Mine.mi ?_ ?_ ?_ ?_) ?_ (Mine.mi ?_ ?_ ?_ ?_) ?_ (Mine.mi ?_ ?_ ?_ ?_) ?_ (Mine.mi ?_ ?_ ?_ ?_) ?_ ?_ ⟨?_, (Mine.wQ ?_), ?_, ?_, ?_, ?_, ?_, ?_, ?_⟩ (Mine.mi ?_ ?_ ?_ ?_) ⟨?_, (Mine.wQ ?_), ?_, ?_, ?_, ?_, ?_, ?_, ?_⟩ (Mine.mi ?_ ?_ ?_ ?_) ⟨?_, (Mine.wQ ?_), ?_, ?_, ?_, ?_, ?_, ?_, ?_⟩ (Mine.mi ?_ ?_ ?_ ?_) ⟨?_, (Mine.wQ ?_), ?_, ?_, ?_, ?_, ?_, ?_, ?_⟩ (Mine.mi ?_ ?_ ?_ ?_) ⟨?_, (Mine.wQ ?_), ?_, ?_, ?_, ?_, ?_, ?_, ?_⟩ (Mine.mi ?_ ?_ ?_ ?_) ?_ (Mine.wQ ?_) ?uND ?_ ?_ ?_ ?_ ?uSK ?uNI ?_ ?_ ?_ ?_ ?_ ?_ ?_ ?_ ?_ ?_ ?_ ?_ ?_ ?_ ?_ ?_ ?_ ?_ ?_ ?_
  any_goals k_is
  (case uSK => rfl); (case uNI => rfl); (case uND => decide)
#print axioms PySem.Challenge.cw_drawhouse_k35_with_and_without_holds
