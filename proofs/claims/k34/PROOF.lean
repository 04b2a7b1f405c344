import PyProof.Rows.All
import Wide.All
import OpenK.AllK
import Wide.FinOn
import Lean
import PyProof.EqAt
import PyProof.EqKinds
import PyProof.TupleCall
import KE.KIntText
import PyProof.ZipIter
import PyProof.EnumFor
import PyProof.EnumMake
import PyProof.ExcClass3
import PyProof.ExcFactsAll.ValueError
import PyProof.ExcArgs
import PyProof.InstStoreFacts
import PyProof.ExcBaseAll.ValueError
import PyProof.Rows.FStr
import KE.KRevSl
import KE.KDictSum
import PySem.Challenge.RW_drawhouse_k34_leads_and_ways
set_option Elab.async false
set_option linter.all false
set_option maxRecDepth 100000
namespace L2
open PySem PySem.Spec PyProof.Rows
abbrev Key := Sum Int Str
def ug : Key → Value → Bool
 | .inl k, v => Value.isInt k v
 | .inr x, v => Value.isStrOf x v
def RT (w : World) : Key → Int
 | .inl k => hashInt k
 | .inr x => hashStr w x
theorem bT : ∀ {k : Key} {v : Value}, ug k v = true → (∃ i t, k = Sum.inl i ∧ v = Value.int i t) ∨ (∃ x t, k = Sum.inr x ∧ v = Value.str x t)
 | .inl i, v, h => by
  obtain ⟨t, e⟩ := Value.isInt_shape (k := i) (v := v) h
  exact .inl ⟨i, t, rfl, e⟩
 | .inr x, v, h => by
  obtain ⟨t, e⟩ := Value.isStrOf_shape (x := x) (v := v) h
  exact .inr ⟨x, t, rfl, e⟩
theorem Ar (i : Int) (t : Tok) : ug (.inl i) (.int i t) = true := by simp [ug, Value.isInt]
theorem zR (x : Str) (t : Tok) : ug (.inr x) (.str x t) = true := by simp [ug, Value.isStrOf]
theorem G9 (a b : Int) : decide ((Sum.inl a : Key) = Sum.inl b) = (a == b) := by
 by_cases e : a = b
 ·subst e; simp
 ·have h : ¬ (Sum.inl a : Key) = Sum.inl b := fun q => e (Sum.inl.inj q)
  rw [decide_eq_false h]
  exact (beq_eq_false_iff_ne.mpr e).symm
theorem Hq (a b : Str) : decide ((Sum.inr a : Key) = Sum.inr b) = decide (a = b) := by
 by_cases e : a = b
 ·subst e; simp
 ·have h : ¬ (Sum.inr a : Key) = Sum.inr b := fun q => e (Sum.inr.inj q)
  rw [decide_eq_false h, decide_eq_false e]
theorem HD (a : Int) (b : Str) : decide ((Sum.inl a : Key) = Sum.inr b) = false := decide_eq_false (fun q => nomatch q)
theorem HX (a : Str) (b : Int) : decide ((Sum.inr a : Key) = Sum.inl b) = false := decide_eq_false (fun q => nomatch q)
def bN (prog : Program) (w : World) : PySem.KeyKind prog w Key where
 is := ug
 hash := RT w
 inj := fun v a b ha hb => by
  rcases bT ha with ⟨i, t, rfl, rfl⟩ | ⟨x, t, rfl, rfl⟩
  ·rcases bT hb with ⟨j, u, rfl, e⟩ | ⟨y, u, rfl, e⟩
   ·injection e with e1 _; rw [e1]
   ·exact nomatch e
  ·rcases bT hb with ⟨j, u, rfl, e⟩ | ⟨y, u, rfl, e⟩
   ·exact nomatch e
   ·injection e with e1 _; rw [e1]
 byValue := fun k v h => by
  rcases bT h with ⟨i, t, rfl, rfl⟩ | ⟨x, t, rfl, rfl⟩ <;> rfl
 pyHash := fun hv h => by
  rcases bT hv with ⟨i, t, rfl, rfl⟩ | ⟨x, t, rfl, rfl⟩
  ·exact wpAny_pyHash_int h
  ·exact wpAny_pyHash_str h
 eqBool := fun hu hv h => by
  rcases bT hu with ⟨i, t, rfl, rfl⟩ | ⟨x, t, rfl, rfl⟩
  ·rcases bT hv with ⟨j, u, rfl, rfl⟩ | ⟨y, u, rfl, rfl⟩
   ·rw [G9] at h; exact wpAny_eqBool_int h
   ·rw [HD] at h; exact SeqAt.EqAt.int_str i t y u _ _ _ _ h
  ·rcases bT hv with ⟨j, u, rfl, rfl⟩ | ⟨y, u, rfl, rfl⟩
   ·rw [HX] at h; exact SeqAt.EqAt.str_int x t j u _ _ _ _ h
   ·rw [Hq] at h; exact wpAny_eqBool_str h
 «strs» := fun k x t v h => by
  rcases bT h with ⟨i, u, rfl, e⟩ | ⟨y, u, rfl, e⟩
  ·exact nomatch e
  ·injection e with e1 _
   subst e1
   cases v <;> rfl
theorem vX (prog : Program) (w : World) (i : Int) (t : Tok) : (bN prog w).is (.inl i) (.int i t) = true := Ar i t
theorem wz (prog : Program) (w : World) (x : Str) (t : Tok) : (bN prog w).is (.inr x) (.str x t) = true := zR x t
inductive V where
 | non | bl (b : Bool) | int (i : Int) | str (x : Str) | byt (b : Array UInt8) | flt (b : UInt64) | ref (a : Addr) | ty (n : String)
 deriving DecidableEq
def RelV : V → Value → Prop
 | .non, u => u = Value.none
 | .bl b, u => u = Value.bool b
 | .int i, u => ∃ t, u = Value.int i t
 | .str x, u => ∃ t, u = Value.str x t
 | .byt b, u => ∃ t, u = Value.bytes b t
 | .flt b, u => ∃ t, u = Value.float b t
 | .ref a, u => u = Value.ref a
 | .ty n, u => u = Value.type n
abbrev Vals : List V → List Value → Prop := Paired RelV
theorem Vals.length {xs : List V} {us : List Value} (r : Vals xs us) : xs.length = us.length := Paired.length r
theorem Vals.get : ∀ {xs : List V} {us : List Value} {i : Nat} {x : V}, Vals xs us → xs[i]? = some x → ∃ u, us[i]? = some u ∧ RelV x u
 | _, _, _, _, .nil, e => by simp at e
 | _, _, 0, _, .cons r _, e => by simp at e; subst e; exact ⟨_, rfl, r⟩
 | _, _, i + 1, x, .cons _ t, e => by
  obtain ⟨u, h1, h2⟩ := Vals.get (i := i) (x := x) t (by simpa using e)
  exact ⟨u, by simpa using h1, h2⟩
theorem Vals.append : ∀ {xs ys : List V} {us ws : List Value}, Vals xs us → Vals ys ws → Vals (xs ++ ys) (us ++ ws)
 | _, _, _, _, .nil, s => s
 | _, _, _, _, .cons r t, s => .cons r (Vals.append t s)
theorem Vals.take : ∀ {xs : List V} {us : List Value} (n : Nat), Vals xs us → Vals (xs.take n) (us.take n)
 | _, _, 0, _ => .nil
 | _, _, _ + 1, .nil => .nil
 | _, _, n + 1, .cons r t => .cons r (Vals.take n t)
theorem Vals.drop : ∀ {xs : List V} {us : List Value} (n : Nat), Vals xs us → Vals (xs.drop n) (us.drop n)
 | _, _, 0, r => r
 | _, _, _ + 1, .nil => .nil
 | _, _, n + 1, .cons _ t => Vals.drop n t
def jr : Option V → Option Value → Prop
 | some v, some u => RelV v u
 | none, none => True
 | _, _ => False
def KV {κ : Type} : List (κ × V) → List (κ × Value) → Prop := Paired fun (p : κ × V) (q : κ × Value) => p.1 = q.1 ∧ RelV p.2 q.2
def kV : Key → V
 | .inl i => .int i
 | .inr x => .str x
inductive HO where
 | lst (xs : List V)
 | tup (xs : List V)
 | dK (kvs : List (Key × V)) | dT (kvs : List (List Key × V))
 | set (S : Int → Bool) (n : Nat)
 | ins (C dx : Addr) (fs : List (Str × V))
 | own (x : Addr)
 | xd (fs : List (Str × V))
 | met (f x : Addr)
 | rng (lo hi : Int)
 | frz (o : Obj) (u : HO)
 | tbl (ps : Array Value)
 | ext (φ : Heap → Prop)
abbrev Hp := Addr → Option HO
def upd (H : Hp) (a : Addr) (o : HO) : Hp := fun b => if b = a then some o else H b
theorem ao {H : Hp} {a : Addr} {o : HO} : upd H a o a = some o := by unfold upd; rw [if_pos rfl]
theorem aG {H : Hp} {a b : Addr} {o : HO} (h : b ≠ a) : upd H a o b = H b := by unfold upd; rw [if_neg h]
theorem eX {H : Hp} {a b : Addr} {o u : HO} (h : H a = some o) (h' : H b = some u) (d : o ≠ u) : a ≠ b := by
 intro e; subst e; rw [h] at h'; exact d (Option.some.inj h')
theorem aF {H : Hp} {a b : Addr} {o : HO} (h : H a = some o) (h' : H b = none) : a ≠ b := by
 intro e; subst e; rw [h] at h'; cases h'
section
variable (P : Program) (w : World)
def bI (H : Hp) (h : Heap) (a : Addr) : HO → Prop
 | .lst xs => xs.length ≤ sizeLine ∧ ∃ (its : List Value) (n : Nat), Vals xs its ∧ h.get? a = some { cls := .type "list", data := .seq its.toArray n }
 | .tup xs => xs.length ≤ sizeLine ∧ ∃ its : List Value, Vals xs its ∧ IsTup h a its.toArray
 | .dK kvs => kvs.length ≤ sizeLine ∧ (a == sysModules) = false ∧ ∃ vs, KV kvs vs ∧ h.DictOf (bN P w) a vs
 | .dT kvs => kvs.length ≤ sizeLine ∧ (a == sysModules) = false ∧ ∃ xs : List (List Key × Addr × Value),
   Paired (fun (p : List Key × V) (q : List Key × Addr × Value) => p.1 = q.1 ∧ H q.2.1 = some (.tup (p.1.map kV)) ∧ RelV p.2 q.2.2) kvs xs ∧
   ∃ o es ep, h.get? a = some o ∧ o.ExactDict ∧ o.data = .dict es ep ∧ es.toList = xs.map (entryOfKey (tupleKind (bN P w))) ∧ (xs.map (·.1)).Nodup
 | .set S n => h.SetOf (intKind P w) a S n
 | .ins C dx fs => H dx = some (.own a) ∧ fs.length ≤ 1000 ∧ dx ≠ a ∧ h.get? a = some (PySem.W.instObj C dx) ∧
   ∃ mA, h.Ns1 dx mA ∧ (∀ f, jr (fs.lookup f) (mA f)) ∧ PySem.Within mA (fs.map (·.1))
 | .own _ => ∃ o, h.get? a = some o
 | .xd fs => ∃ mA, h.Ns1 a mA ∧ ∀ f, jr (fs.lookup f) (mA f)
 | .rng lo hi => ∃ t u v, h.get? a = some { cls := .type "range", data := .fields #[.int lo t, .int hi u, .int 1 v] }
 | .frz o u => h.get? a = some o ∧ bI H h a u
 | .tbl ps => h.get? a = some { cls := .none, data := .fields ps }
 | .met f x => h.get? a = some (PySem.W.methodObj (.ref f) (.ref x))
 | .ext φ => φ h ∧ (∃ o, h.get? a = some o) ∧ ∀ h1 h2 : Heap, φ h1 → (∀ o, h1.get? a = some o → h2.get? a = some o) → φ h2
def HOk (H : Hp) (h : Heap) : Prop := ∀ a o, H a = some o → bI P w H h a o
end
section
variable {P : Program} {w : World} {H H' : Hp} {h h' : Heap} {a : Addr} {o : HO}
theorem bI.lt (x : bI P w H h a o) : a < h.objs.size := by
 cases o with
 | lst xs => obtain ⟨_, _, _, _, e⟩ := x; exact Heap.lt_size e
 | tup xs => obtain ⟨_, _, _, p⟩ := x; exact p.lt
 | dK kvs => obtain ⟨_, _, _, _, o, _, _, e, _⟩ := x; exact Heap.lt_size e
 | dT kvs => obtain ⟨_, _, _, _, o, _, _, e, _⟩ := x; exact Heap.lt_size e
 | set S n => obtain ⟨o, _, _, _, e, _⟩ := x; exact Heap.lt_size e
 | ins C dx fs => obtain ⟨_, _, _, e, _⟩ := x; exact Heap.lt_size e
 | own y => obtain ⟨_, e⟩ := x; exact Heap.lt_size e
 | xd fs => obtain ⟨_, ⟨_, _, _, e, _⟩, _⟩ := x; exact Heap.lt_size e
 | rng lo hi => obtain ⟨_, _, _, e⟩ := x; exact Heap.lt_size e
 | frz ob u => obtain ⟨e, _⟩ := x; exact Heap.lt_size e
 | tbl ps => exact Heap.lt_size (show h.get? a = some _ from x)
 | met f y => exact Heap.lt_size (show h.get? a = some _ from x)
 | ext φ => obtain ⟨_, ⟨_, e⟩, _⟩ := x; exact Heap.lt_size e
theorem Paired.mapP {α β : Type} {F G : α → β → Prop} : ∀ {l₁ : List α} {l₂ : List β}, Paired F l₁ l₂ → (∀ a b, F a b → G a b) → Paired G l₁ l₂
 | _, _, .nil, _ => .nil
 | _, _, .cons r t, f => .cons (f _ _ r) (Paired.mapP t f)
theorem bI.stay (x : bI P w H h a o) (k : ∀ b u, (b = a ∨ H b = some (.own a)) → h.get? b = some u → h'.get? b = some u)
  (ho : ∀ b, H b = some (.own a) → H' b = some (.own a)) (ht : ∀ b xs, H b = some (.tup xs) → H' b = some (.tup xs)) : bI P w H' h' a o := by
 induction o with
 | lst xs => obtain ⟨z, its, n, r, e⟩ := x; exact ⟨z, its, n, r, k _ _ (.inl rfl) e⟩
 | tup xs => obtain ⟨z, its, r, ob, e, c⟩ := x; exact ⟨z, its, r, ob, k _ _ (.inl rfl) e, c⟩
 | dK kvs => obtain ⟨z, y, vs, r, ob, es, ep, e, c⟩ := x; exact ⟨z, y, vs, r, ob, es, ep, k _ _ (.inl rfl) e, c⟩
 | dT kvs =>
  obtain ⟨z, y, xs, r, ob, es, ep, e, c⟩ := x
  exact ⟨z, y, xs, Paired.mapP r fun p q z => ⟨z.1, ht _ _ z.2.1, z.2.2⟩, ob, es, ep, k _ _ (.inl rfl) e, c⟩
 | set S n => obtain ⟨ob, es, ep, t, e, c⟩ := x; exact ⟨ob, es, ep, t, k _ _ (.inl rfl) e, c⟩
 | ins C dx fs =>
  obtain ⟨d, z, ne, e, mA, ⟨od, es, ep, e2, c⟩, r⟩ := x
  exact ⟨ho _ d, z, ne, k _ _ (.inl rfl) e, mA, ⟨od, es, ep, k _ _ (.inr d) e2, c⟩, r⟩
 | own y => obtain ⟨ob, e⟩ := x; exact ⟨ob, k _ _ (.inl rfl) e⟩
 | xd fs => obtain ⟨mA, ⟨od, es, ep, e, c⟩, r⟩ := x; exact ⟨mA, ⟨od, es, ep, k _ _ (.inl rfl) e, c⟩, r⟩
 | rng lo hi => obtain ⟨t, u, v, e⟩ := x; exact ⟨t, u, v, k _ _ (.inl rfl) e⟩
 | frz ob u ih => obtain ⟨e, q⟩ := x; exact ⟨k _ _ (.inl rfl) e, ih q⟩
 | tbl ps =>
  have e : h.get? a = some { cls := .none, data := .fields ps } := x
  show h'.get? a = some { cls := .none, data := .fields ps }
  exact k a _ (.inl rfl) e
 | met f y =>
  have e : h.get? a = some (PySem.W.methodObj (.ref f) (.ref y)) := x
  show h'.get? a = some (PySem.W.methodObj (.ref f) (.ref y))
  exact k a _ (.inl rfl) e
 | ext φ => obtain ⟨p, ⟨o, e⟩, st⟩ := x; exact ⟨st _ _ p fun o q => k _ _ (.inl rfl) q, ⟨o, k _ _ (.inl rfl) e⟩, st⟩
theorem HOk.lt (x : HOk P w H h) (e : H a = some o) : a < h.objs.size := (x a o e).lt
theorem HOk.fresh (x : HOk P w H h) (e : h.objs.size ≤ a) : H a = none := by
 cases q : H a with
 | none => rfl
 | some u => exact absurd (Nat.lt_of_lt_of_le (x.lt q) e) (Nat.lt_irrefl _)
theorem HOk.kept (x : HOk P w H h) (k : ∀ b u, h.get? b = some u → h'.get? b = some u) : HOk P w H h' := fun a o e =>
 (x a o e).stay (fun b u _ q => k b u q) (fun _ q => q) fun _ _ q => q
theorem HOk.laid (x : HOk P w H h) (k : ∀ b u, h.get? b = some u → h'.get? b = some u) (hp : h.objs.size ≤ a) (new : bI P w (upd H a o) h' a o) : HOk P w (upd H a o) h' := fun b u e => by
 have hn := x.fresh hp
 by_cases hb : b = a
 ·subst hb; rw [ao] at e; cases e; exact new
 ·rw [aG hb] at e
  exact (x b u e).stay (fun c v _ q => k c v q) (fun c q => by rw [aG (aF q hn)]; exact q) fun c xs q => by rw [aG (aF q hn)]; exact q
end
def Rd (H : Hp) (a : Addr) (u : HO) : Prop := H a = some u ∨ ∃ o, H a = some (.frz o u)
theorem Rd.ok {P : Program} {w : World} {H : Hp} {h : Heap} {a : Addr} {u : HO} (r : Rd H a u) (x : HOk P w H h) : bI P w H h a u := by
 rcases r with r | ⟨o, r⟩
 ·exact x a u r
 ·obtain ⟨_, q⟩ := x a _ r
  exact q
def Mut : Option HO → Prop
 | some (.lst _) => True
 | some (.dK _) => True
 | some (.dT _) => True
 | some (.set _ _) => True
 | some (.ins _ _ _) => True
 | some (.ext _) => True
 | _ => False
section
variable {P : Program} {w : World} {H : Hp} {h h' : Heap} {x e : Addr} {o' : HO}
theorem HOk.write (ok : HOk P w H h) (mu : Mut (H x)) (he : e = x ∨ H e = some (.own x)) (k : ∀ b u, b ≠ e → h.get? b = some u → h'.get? b = some u) (heo : ∃ u, h'.get? e = some u)
  (new : bI P w (upd H x o') h' x o') : HOk P w (upd H x o') h' := fun b u q => by
 have nown : ∀ c y, H c = some (.own y) → c ≠ x := fun c y r z => by subst z; rw [r] at mu; exact mu
 have ntup : ∀ c xs, H c = some (.tup xs) → c ≠ x := fun c xs r z => by subst z; rw [r] at mu; exact mu
 by_cases hb : b = x
 ·subst hb; rw [ao] at q; cases q; exact new
 ·rw [aG hb] at q
  by_cases hbe : b = e
  ·have q' : H b = some (.own x) := by
    rcases he with z | z
    ·exact absurd (hbe.trans z) hb
    ·rw [hbe]; exact z
   rw [q] at q'; cases q'
   obtain ⟨v, hv⟩ := heo
   exact ⟨v, by rw [hbe]; exact hv⟩
  ·refine (ok b u q).stay (fun c v hc r => k c v ?_ r) (fun c r => by rw [aG (nown c b r)]; exact r) fun c xs r => by rw [aG (ntup c xs r)]; exact r
   rcases hc with rfl | hc
   ·exact hbe
   ·rintro rfl
    rcases he with z | z
    ·exact nown c b hc z
    ·rw [hc] at z; cases z; exact hb rfl
end
structure Un (fs ex : List Addr) (H H' : Hp) (h h' : Heap) : Prop where
 keep : ∀ b o, h.get? b = some o → H b = none → b ∉ fs → b ∉ ex → h'.get? b = some o
 slot : ∀ b o, h.get? b = some o → H b = none → b ∈ fs → b ∉ ex → ∃ sl, h'.get? b = some { o with slots := sl }
 free : ∀ b o, h.get? b = some o → H b = none → b ∉ ex → H' b = none
 there : ∀ b o, h.get? b = some o → b ∉ ex → ∃ o', h'.get? b = some o'
 tups : ∀ b xs, H b = some (.tup xs) → H' b = some (.tup xs)
 frzs : ∀ b o u, H b = some (.frz o u) → H' b = some (.frz o u)
 tbls : ∀ b ps, H b = some (.tbl ps) → ∃ more, H' b = some (.tbl (ps ++ more))
section
variable {fs fs' ex ex' : List Addr} {H H1 H2 : Hp} {h h1 h2 h' : Heap} {a x e : Addr} {o : HO}
theorem Un.any (u : Un fs ex H H1 h h1) {b : Addr} {ob : Obj} (q : h.get? b = some ob) (n : H b = none) (hx : b ∉ ex) : ∃ sl, h1.get? b = some { ob with slots := sl } := by
 by_cases hb : b ∈ fs
 ·exact u.slot b ob q n hb hx
 ·exact ⟨ob.slots, u.keep b ob q n hb hx⟩
theorem Un.kept (k : ∀ b u, h.get? b = some u → h'.get? b = some u) : Un fs ex H H h h' :=
 ⟨fun b ob q _ _ _ => k b ob q, fun b ob q _ _ _ => ⟨ob.slots, k b ob q⟩, fun _ _ _ n _ => n, fun b ob q _ => ⟨ob, k b ob q⟩, fun _ _ q => q, fun _ _ _ q => q, fun _ ps q => ⟨#[], by rw [q]; simp⟩⟩
theorem Un.refl : Un fs ex H H h h := Un.kept fun _ _ q => q
theorem Un.laid (k : ∀ b u, h.get? b = some u → h'.get? b = some u) (hp : h.objs.size ≤ a) (hn : H a = none) : Un fs ex H (upd H a o) h h' where
 keep := fun b u q _ _ _ => k b u q
 slot := fun b u q _ _ _ => ⟨u.slots, k b u q⟩
 free := fun b u q n _ => by rw [aG (Nat.ne_of_lt (Nat.lt_of_lt_of_le (Heap.lt_size q) hp))]; exact n
 there := fun b u q _ => ⟨u, k b u q⟩
 tups := fun b xs q => by rw [aG (aF q hn)]; exact q
 frzs := fun b u xs q => by rw [aG (aF q hn)]; exact q
 tbls := fun b ps q => ⟨#[], by rw [aG (aF q hn), q]; simp⟩
theorem Un.write (mu : Mut (H x)) (he : e = x ∨ H e = some (.own x)) (k : ∀ b u, b ≠ e → h.get? b = some u → h'.get? b = some u) (heo : ∃ u, h'.get? e = some u) : Un fs ex H (upd H x o) h h' := by
 have hx : ∀ b, H b = none → b ≠ x := fun b n z => by subst z; rw [n] at mu; exact mu
 have hb : ∀ b, H b = none → b ≠ e := fun b n z => by
  subst z
  rcases he with r | r
  ·exact hx b n r
  ·rw [n] at r; cases r
 have hm : ∀ b u, H b = some u → ¬ Mut (some u) → b ≠ x := fun b u q nm z => by subst z; rw [q] at mu; exact nm mu
 refine ⟨fun b u q n _ _ => k b u (hb b n) q, fun b u q n _ _ => ⟨u.slots, k b u (hb b n) q⟩, fun b u q n _ => by rw [aG (hx b n)]; exact n, fun b u q _ => ?_,
  fun b xs q => by rw [aG (hm b _ q fun z => z)]; exact q, fun b u xs q => by rw [aG (hm b _ q fun z => z)]; exact q, fun b ps q => ⟨#[], by rw [aG (hm b _ q fun z => z), q]; simp⟩⟩
 by_cases hbe : b = e
 ·subst hbe; exact heo
 ·exact ⟨u, k b u hbe q⟩
end
def trk (h : Heap) (H : Hp) : List Addr := (List.range h.objs.size).filter fun a => (H a).isSome
def uE (h : Heap) (H : Hp) : Heap := PySem.W.hideAll h (trk h H)
theorem zN (h : Heap) (H : Hp) : (uE h H).objs.size = h.objs.size := PySem.W.hideAll_size _ _
theorem Cq {h : Heap} {H : Hp} {b : Addr} {o : Obj} (e : h.get? b = some o) (n : H b = none) : (uE h H).get? b = some o :=
 PySem.W.hideAll_get _ e fun hm => by
  have q : (H b).isSome = true := (List.mem_filter.mp hm).2
  rw [n] at q; simp at q
theorem Et {h : Heap} {H : Hp} {b : Addr} {o : Obj} (e : (uE h H).get? b = some o) : h.get? b = some o ∧ H b = none := by
 have e' : h.get? b = some o := PySem.W.of_hideAll (trk h H) e
 refine ⟨e', ?_⟩
 cases q : H b with
 | none => rfl
 | some x =>
  have hm : b ∈ trk h H := List.mem_filter.mpr ⟨List.mem_range.mpr (Heap.lt_size e'), by simp [q]⟩
  have z : (uE h H).get? b = none := PySem.W.hideAll_none (trk h H) hm
  rw [z] at e; cases e
structure Mod (K : PySem.W.Frag) (mg : Str → Option Value) (base : Heap) : Prop where
 kin : K.In base
 glob : base.Ns mainGlobals mg
 blt : ∃ mb, base.Ns builtinsNs mb ∧ ∀ x : Str, x ≠ "__name__" → mb x = bootBuiltins x
 nolimit : base.NoLimit
structure Cx where
 prog : Program
 w : World
 K : PySem.W.Frag
 mg : Str → Option Value
 base : Heap
 A : Around
 N : List Str
 s₀ : Shared
 H₀ : Hp
 env : Env
 outer : List Env
 stack : List Env
 ex : List Addr
 fn : Str → Bool
 calm : Bool
 pn : List (Addr × Obj)
 xe : Value → Shared → Prop
def frs (l : List Env) : List Addr := l.filterMap (·.frame)
abbrev Cx.fs (X : Cx) : List Addr := frs X.outer
def Vis (sc : Scope) (x : Str) : Prop := sc.names.lookup x = some .local ∨ sc.names.lookup x = some .cell ∨ sc.names.lookup x = some .free
def Loc (sc : Scope) (x : Str) : Prop := sc.names.lookup x = some .local ∨ sc.names.lookup x = some .cell
def Look (env : Env) (h : Heap) (m : Str → Option Value) (x : Str) (u : Value) : Prop :=
 (env.kindOf x = some .local ∧ m x = some u) ∨ ((env.kindOf x = some .cell ∨ env.kindOf x = some .free) ∧ ∃ c, env.cells.lookup x = some c ∧ h.IsCell c (some u))
structure Cx.Ok (X : Cx) : Prop where
 mod : Mod X.K X.mg X.base
 kind : X.env.scope.kind = .function
 glob : X.env.globals = mainGlobals
 blt : X.env.builtins = builtinsNs
 above : X.s₀.heap.objs.size ≤ X.env.locals
 inj : ∀ x y c, X.env.cells.lookup x = some c → X.env.cells.lookup y = some c → x = y
 has : ∀ x, (X.env.kindOf x = some .cell ∨ X.env.kindOf x = some .free) → ∃ c, X.env.cells.lookup x = some c
 cab : ∀ x c, X.fn x = true → X.env.cells.lookup x = some c → X.s₀.heap.objs.size ≤ c
 hd : X.calm = true → X.A.handled = none
 frames : X.A.frames = some X.stack
 stk : X.stack = X.outer ∨ (X.stack = X.env :: X.outer ∧ X.env.frame = some X.env.locals)
 exf : ∀ b ∈ X.ex, b ≠ X.env.locals ∧ ∀ x c, X.env.cells.lookup x = some c → c ≠ b
 bs : ∀ b o, X.base.get? b = some o → X.s₀.heap.get? b = some o ∧ X.H₀ b = none
 bsz : X.base.objs.size ≤ X.s₀.heap.objs.size
 noex : ∀ b o, X.base.get? b = some o → b ∉ X.ex
 exfs : ∀ b ∈ X.ex, b ∉ X.fs
 funs : X.s₀.heap.FunFrames X.base X.outer
 frf : ∀ b ∈ X.fs, X.H₀ b = none
structure Inv (X : Cx) (pins : List (Addr × Obj)) (σ : List (Option V)) (H : Hp) (s : Shared) : Prop where
 ok : X.Ok
 os : s.os = X.s₀.os
 bare : AllBare s.gens
 base : Un X.fs X.ex X.H₀ H X.s₀.heap s.heap
 loc : ∃ m, s.heap.Ns X.env.locals m ∧ ∀ (i : Nat) (x : Str) (v : V), X.N[i]? = some x → σ[i]? = some (some v) → Vis X.env.scope x → ∃ u, RelV v u ∧ Look X.env s.heap m x u
 cell : ∀ x c, X.env.cells.lookup x = some c → ∃ v, s.heap.IsCell c v
 free : H X.env.locals = none
 freeC : ∀ x c, X.env.cells.lookup x = some c → H c = none
 pin : ∀ p ∈ X.pn ++ pins, s.heap.get? p.1 = some p.2 ∧ H p.1 = none ∧ p.1 ≠ X.env.locals ∧ p.1 ∉ X.fs ∧ ∀ v, p.2.data ≠ .cell v
 hok : HOk X.prog X.w H s.heap
 len : σ.length = X.N.length
section
variable {X : Cx} {pins : List (Addr × Obj)} {σ : List (Option V)} {H H' : Hp} {s : Shared} {h' : Heap}
theorem Cx.Ok.nofr (ok : X.Ok) {b : Addr} {o : Obj} (e : X.base.get? b = some o) : b ∉ X.fs := fun hb => by
 have := (ok.funs.mem hb).1
 rw [e] at this; cases this
theorem Inv.bs (I : Inv X pins σ H s) : ∀ b o, X.base.get? b = some o → s.heap.get? b = some o ∧ H b = none := fun b o e =>
 ⟨I.base.keep b o (I.ok.bs b o e).1 (I.ok.bs b o e).2 (I.ok.nofr e) (I.ok.noex b o e), I.base.free b o (I.ok.bs b o e).1 (I.ok.bs b o e).2 (I.ok.noex b o e)⟩
theorem Inv.bk (I : Inv X pins σ H s) : ∀ b o, X.base.get? b = some o → s.heap.get? b = some o := fun b o e => (I.bs b o e).1
theorem Inv.mod (I : Inv X pins σ H s) : Mod X.K X.mg X.base := I.ok.mod
theorem Inv.kIn (I : Inv X pins σ H s) : X.K.In s.heap := I.ok.mod.kin.keeps I.bk
theorem Inv.lt (I : Inv X pins σ H s) : X.env.locals < s.heap.objs.size := let ⟨_, hn, _⟩ := I.loc; hn.lt
theorem Inv.sz (I : Inv X pins σ H s) : X.s₀.heap.objs.size ≤ s.heap.objs.size := Nat.le_trans I.ok.above (Nat.le_of_lt I.lt)
theorem Inv.nofs (I : Inv X pins σ H s) {a : Addr} (h : s.heap.objs.size ≤ a) : a ∉ X.fs := fun hb => by
 obtain ⟨_, o, ho, _⟩ := I.ok.funs.mem hb
 exact absurd (Nat.lt_of_lt_of_le (Heap.lt_size ho) (Nat.le_trans I.sz h)) (Nat.lt_irrefl _)
theorem Inv.cne (I : Inv X pins σ H s) : ∀ x c, X.env.cells.lookup x = some c → c ≠ X.env.locals := fun x c e z => by
 obtain ⟨v, o, ho, hd⟩ := I.cell x c e
 obtain ⟨m, ⟨o', es, ep, ho', hd', _⟩, _⟩ := I.loc
 rw [z, ho'] at ho; cases ho; rw [hd'] at hd; cases hd
theorem Inv.funs (I : Inv X pins σ H s) : s.heap.FunFrames X.base X.outer := by
 have all : ∀ (l : List Env), (∀ b ∈ frs l, b ∈ X.fs) → X.s₀.heap.FunFrames X.base l → s.heap.FunFrames X.base l := by
  intro l
  induction l with
  | nil => intro _ _; trivial
  | cons env r ih =>
   intro hs hl
   obtain ⟨hk, ⟨L, o, hf, hn, ho, hd⟩, hr⟩ := hl
   have hL : L ∈ X.fs := hs L (by unfold frs; rw [List.filterMap_cons, hf]; exact List.mem_cons_self)
   obtain ⟨sl, e⟩ := I.base.slot L o ho (I.ok.frf L hL) hL fun z => I.ok.exfs L z hL
   exact ⟨hk, ⟨L, _, hf, hn, e, hd⟩, ih (fun b hb => hs b (by unfold frs; rw [List.filterMap_cons, hf]; exact List.mem_cons_of_mem _ hb)) hr⟩
 exact all X.outer (fun _ hb => hb) I.ok.funs
theorem Inv.stack (I : Inv X pins σ H s) : s.heap.FunFrames X.base X.stack := by
 rcases I.ok.stk with e | ⟨e, hf⟩
 ·rw [e]; exact I.funs
 ·rw [e]
  obtain ⟨m, hn, _⟩ := I.loc
  refine .cons (by rw [I.ok.kind]; decide) hf hn ?_ I.funs
  exact Heap.get?_none_of_le (Nat.le_trans I.ok.bsz I.ok.above)
theorem Inv.stkSub (I : Inv X pins σ H s) : ∀ b ∈ frs X.stack, b ∈ X.env.locals :: X.fs := fun b hb => by
 rcases I.ok.stk with e | ⟨e, hf⟩
 ·rw [e] at hb; exact List.mem_cons_of_mem _ hb
 ·rw [e] at hb
  unfold frs at hb
  rw [List.filterMap_cons, hf] at hb
  exact hb
theorem Inv.stkFree (I : Inv X pins σ H s) : ∀ b ∈ frs X.stack, H b = none := fun b hb => by
 rcases List.mem_cons.mp (I.stkSub b hb) with e | hb
 ·rw [e]; exact I.free
 ·obtain ⟨_, o, ho, _⟩ := I.ok.funs.mem hb
  exact I.base.free b o ho (I.ok.frf b hb) fun z => I.ok.exfs b z hb
theorem Inv.step {g' : Array GenState} {t' : Nat} {d' : Drawn} {ch : List Addr} (I : Inv X pins σ H s)
  (hch : ∀ b ∈ ch, (b ∈ X.ex ∨ X.s₀.heap.objs.size ≤ b) ∧ b ≠ X.env.locals ∧ (∀ x c, X.env.cells.lookup x = some c → c ≠ b) ∧ ∀ p ∈ X.pn ++ pins, p.1 ≠ b)
  (keep : ∀ b o, b ≠ X.env.locals → b ∉ X.fs → b ∉ ch → s.heap.get? b = some o → H b = none → h'.get? b = some o)
  (slot : ∀ b o, b ≠ X.env.locals → b ∈ X.fs → b ∉ ch → s.heap.get? b = some o → H b = none → ∃ sl, h'.get? b = some { o with slots := sl }) (free : ∀ b o, b ∉ ch → s.heap.get? b = some o → H b = none → H' b = none)
  (there : ∀ b o, b ∉ ch → s.heap.get? b = some o → ∃ o', h'.get? b = some o')
  (tups : ∀ b xs, H b = some (.tup xs) → H' b = some (.tup xs)) (frzs : ∀ b o u, H b = some (.frz o u) → H' b = some (.frz o u)) (tbls : ∀ b ps, H b = some (.tbl ps) → ∃ more, H' b = some (.tbl (ps ++ more)))
  (ns : ∀ m, s.heap.Ns X.env.locals m → h'.Ns X.env.locals m) (hok : HOk X.prog X.w H' h') (hg : AllBare g') :
  Inv X pins σ H' { s with heap := h', gens := g', drawn := d', toks := t' } := by
 have neL : ∀ b o, X.s₀.heap.get? b = some o → b ≠ X.env.locals := fun b o e => Nat.ne_of_lt (Nat.lt_of_lt_of_le (Heap.lt_size e) I.ok.above)
 have neC : ∀ b o, X.s₀.heap.get? b = some o → b ∉ X.ex → b ∉ ch := fun b o e hx hb => by
  rcases (hch b hb).1 with z | z
  ·exact hx z
  ·exact absurd (Nat.lt_of_lt_of_le (Heap.lt_size e) z) (Nat.lt_irrefl _)
 have cellK : ∀ x c, X.env.cells.lookup x = some c → ∀ v, s.heap.IsCell c v → h'.IsCell c v := fun x c e v ⟨o, ho, hd⟩ => by
  have nch : c ∉ ch := fun z => (hch c z).2.2.1 x c e rfl
  by_cases hc : c ∈ X.fs
  ·obtain ⟨sl, q⟩ := slot c o (I.cne x c e) hc nch ho (I.freeC x c e)
   exact ⟨_, q, hd⟩
  ·exact ⟨o, keep c o (I.cne x c e) hc nch ho (I.freeC x c e), hd⟩
 refine ⟨I.ok, I.os, hg, ⟨fun b o e n hb hx => ?_, fun b o e n hb hx => ?_, fun b o e n hx => ?_, fun b o e hx => ?_, fun b xs e => tups b xs (I.base.tups b xs e), fun b o xs e => frzs b o xs (I.base.frzs b o xs e), fun b ps e => ?_⟩, ?_, fun x c e => ?_, ?_, fun x c e => ?_, fun p hp => ?_, hok, I.len⟩
 ·exact keep b o (neL b o e) hb (neC b o e hx) (I.base.keep b o e n hb hx) (I.base.free b o e n hx)
 ·obtain ⟨sl, e1⟩ := I.base.slot b o e n hb hx
  obtain ⟨sl', e2⟩ := slot b _ (neL b o e) hb (neC b o e hx) e1 (I.base.free b o e n hx)
  exact ⟨sl', e2⟩
 ·obtain ⟨o', e1⟩ := I.base.there b o e hx
  exact free b o' (neC b o e hx) e1 (I.base.free b o e n hx)
 ·obtain ⟨o', e1⟩ := I.base.there b o e hx
  exact there b o' (neC b o e hx) e1
 ·obtain ⟨m1, e1⟩ := I.base.tbls b ps e
  obtain ⟨m2, e2⟩ := tbls b _ e1
  exact ⟨m1 ++ m2, by rw [e2, Array.append_assoc]⟩
 ·obtain ⟨m, hn, hl⟩ := I.loc
  refine ⟨m, ns m hn, fun i x v e1 e2 e3 => ?_⟩
  obtain ⟨u, r, l⟩ := hl i x v e1 e2 e3
  refine ⟨u, r, ?_⟩
  rcases l with l | ⟨k, c, e, z⟩
  ·exact .inl l
  ·exact .inr ⟨k, c, e, cellK x c e _ z⟩
 ·obtain ⟨v, z⟩ := I.cell x c e
  exact ⟨v, cellK x c e v z⟩
 ·obtain ⟨m, ⟨o, _, _, ho, _⟩, _⟩ := I.loc
  exact free _ o (fun z => (hch _ z).2.1 rfl) ho I.free
 ·obtain ⟨v, o, ho, hd⟩ := I.cell x c e
  exact free c o (fun z => (hch c z).2.2.1 x c e rfl) ho (I.freeC x c e)
 ·obtain ⟨e, n, ne, nf, d⟩ := I.pin p hp
  have nch : p.1 ∉ ch := fun z => (hch p.1 z).2.2.2 p hp rfl
  exact ⟨keep p.1 p.2 ne nf nch e n, free p.1 p.2 nch e n, ne, nf, d⟩
theorem Inv.un {t' : Nat} (I : Inv X pins σ H s) (u : Un X.fs [] H H' s.heap h') (hok : HOk X.prog X.w H' h') : Inv X pins σ H' { s with heap := h', toks := t' } := by
 obtain ⟨m, ⟨o, es, ep, ho, r⟩, _⟩ := id I.loc
 obtain ⟨sl, hL⟩ := u.any ho I.free (by simp)
 exact I.step (g' := s.gens) (d' := s.drawn) (ch := []) (fun _ z => nomatch z) (fun b o _ hb _ e n => u.keep b o e n hb (by simp)) (fun b o _ hb _ e n => u.slot b o e n hb (by simp)) (fun b o _ e n => u.free b o e n (by simp)) (fun b o _ e => u.there b o e (by simp)) u.tups u.frzs u.tbls (fun m' hm => by
  obtain ⟨o', es', ep', ho', r'⟩ := hm
  rw [ho] at ho'; cases ho'
  exact ⟨_, es', ep', hL, r'⟩) hok I.bare
theorem Inv.call {g' : Array GenState} {t' : Nat} {d' : Drawn} {ch : List Addr} (I : Inv X pins σ H s) (u : Un (frs X.stack) ch H H' s.heap h') (hok : HOk X.prog X.w H' h') (hg : AllBare g')
  (hch : ∀ b ∈ ch, (b ∈ X.ex ∨ X.s₀.heap.objs.size ≤ b) ∧ b ≠ X.env.locals ∧ (∀ x c, X.env.cells.lookup x = some c → c ≠ b) ∧ ∀ p ∈ X.pn ++ pins, p.1 ≠ b) :
  Inv X pins σ H' { s with heap := h', gens := g', drawn := d', toks := t' } := by
 obtain ⟨m, ⟨o, es, ep, ho, r⟩, _⟩ := id I.loc
 obtain ⟨sl, hL⟩ := u.any ho I.free fun z => (hch _ z).2.1 rfl
 exact I.step (ch := ch) hch (fun b o hL hb hc e n => u.keep b o e n (fun z => (List.mem_cons.mp (I.stkSub b z)).elim hL hb) hc) (fun b o _ _ hc e n => u.any e n hc) (fun b o hc e n => u.free b o e n hc) (fun b o hc e => u.there b o e hc) u.tups u.frzs u.tbls (fun m' hm => by
  obtain ⟨o', es', ep', ho', r'⟩ := hm
  rw [ho] at ho'; cases ho'
  exact ⟨_, es', ep', hL, r'⟩) hok hg
theorem Inv.turned {t' : Nat} {it : Addr} (I : Inv X pins σ H s) (k : ∀ b o, b ≠ it → s.heap.get? b = some o → h'.get? b = some o) (hn : H it = none) (hL : it ≠ X.env.locals)
  (h1 : it ∈ X.ex ∨ X.s₀.heap.objs.size ≤ it) (h2 : ∀ x c, X.env.cells.lookup x = some c → c ≠ it) (h3 : ∀ p ∈ X.pn ++ pins, p.1 ≠ it) : Inv X pins σ H { s with heap := h', toks := t' } := by
 have nit : ∀ b u, H b = some u → b ≠ it := fun b u e z => by rw [z, hn] at e; cases e
 refine I.step (g' := s.gens) (d' := s.drawn) (ch := [it]) (fun b hb => ?_) (fun b o _ _ hc e _ => k b o (fun z => hc (by simp [z])) e) (fun b o _ _ hc e _ => ⟨o.slots, k b o (fun z => hc (by simp [z])) e⟩) (fun _ _ _ _ n => n)
  (fun b o hc e => ⟨o, k b o (fun z => hc (by simp [z])) e⟩) (fun _ _ e => e) (fun _ _ _ e => e) (fun b ps e => ⟨#[], by rw [e]; simp⟩) (fun m hm => ?_) (fun b u e => ?_) I.bare
 ·have e : b = it := by simpa using hb
  subst e
  exact ⟨h1, hL, h2, h3⟩
 ·obtain ⟨o, es, ep, ho, r⟩ := hm
  exact ⟨o, es, ep, k _ o (Ne.symm hL) ho, r⟩
 ·refine (I.hok b u e).stay (fun c v hc q => k c v ?_ q) (fun _ q => q) fun _ _ q => q
  rcases hc with z | z
  ·rw [z]; exact nit b u e
  ·exact nit c _ z
theorem Inv.tok (I : Inv X pins σ H s) (t : Nat) : Inv X pins σ H { s with toks := t } := I.un (h' := s.heap) (t' := t) Un.refl I.hok
theorem Inv.kept {t' : Nat} (I : Inv X pins σ H s) (k : ∀ b u, s.heap.get? b = some u → h'.get? b = some u) : Inv X pins σ H { s with heap := h', toks := t' } := I.un (Un.kept k) (I.hok.kept k)
theorem Inv.laid {a : Addr} {o : HO} {t' : Nat} (I : Inv X pins σ H s) (k : ∀ b u, s.heap.get? b = some u → h'.get? b = some u) (hp : s.heap.objs.size ≤ a) (new : bI X.prog X.w (upd H a o) h' a o) :
  Inv X pins σ (upd H a o) { s with heap := h', toks := t' } := I.un (Un.laid k hp (I.hok.fresh hp)) (I.hok.laid k hp new)
theorem Inv.write {x e : Addr} {o : HO} {t' : Nat} (I : Inv X pins σ H s) (mu : Mut (H x)) (he : e = x ∨ H e = some (.own x)) (k : ∀ b u, b ≠ e → s.heap.get? b = some u → h'.get? b = some u) (heo : ∃ u, h'.get? e = some u)
  (new : bI X.prog X.w (upd H x o) h' x o) : Inv X pins σ (upd H x o) { s with heap := h', toks := t' } := I.un (Un.write mu he k heo) (I.hok.write mu he k heo new)
theorem Inv.pins_of {pins' : List (Addr × Obj)} (I : Inv X pins σ H s) (h : ∀ p ∈ pins', s.heap.get? p.1 = some p.2 ∧ H p.1 = none ∧ p.1 ≠ X.env.locals ∧ p.1 ∉ X.fs ∧ ∀ v, p.2.data ≠ .cell v) : Inv X pins' σ H s :=
 ⟨I.ok, I.os, I.bare, I.base, I.loc, I.cell, I.free, I.freeC, fun p hp => (List.mem_append.mp hp).elim (fun z => I.pin p (List.mem_append_left _ z)) (h p), I.hok, I.len⟩
theorem rK {N : List Str} (hN : N.Nodup) {i j : Nat} {x : Str} (a : N[i]? = some x) (b : N[j]? = some x) : i = j := by
 obtain ⟨h1, e1⟩ := List.getElem?_eq_some_iff.mp a
 obtain ⟨h2, e2⟩ := List.getElem?_eq_some_iff.mp b
 exact (List.getElem_inj hN).mp (e1.trans e2.symm)
theorem ux {M : Model} {A : Around} {E : Value → Shared → Prop} {i : Nat} {x : Str} {v : V} {u : Value} {Q : Unit → Shared → Prop} (I : Inv X pins σ H s) (hN : X.N.Nodup) (hi : X.N[i]? = some x) (hx : Loc X.env.scope x) (r : RelV v u)
  (h : ∀ s', Inv X pins (σ.set i (some v)) H s' → (∃ a, Heap.SameBut a s.heap s'.heap ∧ (a = X.env.locals ∨ X.env.cells.lookup x = some a)) → Q () s') (hf : X.fn x = true ∨ X.env.scope.names.lookup x = some .local := by first | exact .inl rfl | exact .inr rfl | assumption) : wpAny M A (storeName X.env x u) Q E s := by
 obtain ⟨m, hn, hl⟩ := id I.loc
 have hcls : (X.env.scope.kind == .class || (X.env.scope.kind == .module && X.env.locals != X.env.globals)) = false := by rw [I.ok.kind]; rfl
 have hiσ : i < σ.length := by rw [I.len]; exact (List.getElem?_eq_some_iff.mp hi).1
 have cne := I.cne
 have tracked : ∀ {a : Addr} {h' : Heap}, (∃ o, s.heap.get? a = some o ∧ H a = none) → Heap.SameBut a s.heap h' → HOk X.prog X.w H h' := fun {a h'} ha hs b ob e => by
  obtain ⟨_, _, hfree⟩ := ha
  refine (I.hok b ob e).stay (fun c w' hc q => (hs.2 c ?_).trans q) (fun _ q => q) fun _ _ q => q
  rintro rfl
  rcases hc with rfl | hc
  ·rw [hfree] at e; cases e
  ·rw [hfree] at hc; cases hc
 rcases hx with hk | hk
 ·refine wpAny_storeName_local hk hn (fun h' hn' hs => ?_) hcls
  obtain ⟨oL, _, _, hoL, _⟩ := id hn
  refine h _ ⟨I.ok, I.os, I.bare, ⟨fun b o e n hb hx => ?_, fun b o e n hb hx => ?_, I.base.free, fun b o e hx => ?_, I.base.tups, I.base.frzs, I.base.tbls⟩, ⟨_, hn', fun j y v' e1 e2 e3 => ?_⟩, fun y c e => ?_, I.free, I.freeC, fun p hp => ?_, tracked ⟨oL, hoL, I.free⟩ hs, by simpa using I.len⟩ ⟨_, hs, .inl rfl⟩
  ·exact (hs.2 b (Nat.ne_of_lt (Nat.lt_of_lt_of_le (Heap.lt_size e) I.ok.above))).trans (I.base.keep b o e n hb hx)
  ·obtain ⟨sl, e1⟩ := I.base.slot b o e n hb hx
   exact ⟨sl, (hs.2 b (Nat.ne_of_lt (Nat.lt_of_lt_of_le (Heap.lt_size e) I.ok.above))).trans e1⟩
  ·obtain ⟨o', e1⟩ := I.base.there b o e hx
   exact ⟨o', (hs.2 b (Nat.ne_of_lt (Nat.lt_of_lt_of_le (Heap.lt_size e) I.ok.above))).trans e1⟩
  ·by_cases hj : j = i
   ·subst hj
    rw [hi] at e1; cases e1
    rw [List.getElem?_set_self hiσ] at e2
    cases e2
    exact ⟨u, r, .inl ⟨hk, by simp⟩⟩
   ·rw [List.getElem?_set_ne (Ne.symm hj)] at e2
    obtain ⟨u', r', q⟩ := hl j y v' e1 e2 e3
    refine ⟨u', r', ?_⟩
    rcases q with ⟨k, e⟩ | ⟨k, c, e, z⟩
    ·refine .inl ⟨k, ?_⟩
     have : y ≠ x := fun e => hj (rK hN e1 (e ▸ hi))
     simp [this, e]
    ·exact .inr ⟨k, c, e, z.sameBut hs (cne y c e)⟩
  ·obtain ⟨w', z⟩ := I.cell y c e
   exact ⟨w', z.sameBut hs (cne y c e)⟩
  ·obtain ⟨e, n, ne, nf, d⟩ := I.pin p hp
   exact ⟨(hs.2 p.1 ne).trans e, n, ne, nf, d⟩
 ·have hfn : X.fn x = true := by
   rcases hf with z | z
   ·exact z
   ·rw [z] at hk; cases hk
  obtain ⟨c, hc⟩ := I.ok.has x (.inl hk)
  obtain ⟨w', z⟩ := I.cell x c hc
  refine wpAny_storeName_cell I.ok.kind hk hc z (fun h' hc' hs => ?_)
  obtain ⟨oc, hoc, hocd⟩ := id z
  refine h { s with heap := h' } ⟨I.ok, I.os, I.bare, ⟨fun b o e n hb hx => ?_, fun b o e n hb hx => ?_, I.base.free, fun b o e hx => ?_, I.base.tups, I.base.frzs, I.base.tbls⟩, ⟨m, hn.sameBut hs (Ne.symm (cne x c hc)), fun j y v' e1 e2 e3 => ?_⟩, fun y c' e => ?_, I.free, I.freeC, fun p hp => ?_, tracked ⟨oc, hoc, I.freeC x c hc⟩ hs, by simpa using I.len⟩ ⟨c, hs, .inr hc⟩
  ·exact (hs.2 b (Nat.ne_of_lt (Nat.lt_of_lt_of_le (Heap.lt_size e) (I.ok.cab x c hfn hc)))).trans (I.base.keep b o e n hb hx)
  ·obtain ⟨sl, e1⟩ := I.base.slot b o e n hb hx
   exact ⟨sl, (hs.2 b (Nat.ne_of_lt (Nat.lt_of_lt_of_le (Heap.lt_size e) (I.ok.cab x c hfn hc)))).trans e1⟩
  ·obtain ⟨o', e1⟩ := I.base.there b o e hx
   exact ⟨o', (hs.2 b (Nat.ne_of_lt (Nat.lt_of_lt_of_le (Heap.lt_size e) (I.ok.cab x c hfn hc)))).trans e1⟩
  ·by_cases hj : j = i
   ·subst hj
    rw [hi] at e1; cases e1
    rw [List.getElem?_set_self hiσ] at e2
    cases e2
    exact ⟨u, r, .inr ⟨.inl hk, c, hc, hc'⟩⟩
   ·rw [List.getElem?_set_ne (Ne.symm hj)] at e2
    obtain ⟨u', r', q⟩ := hl j y v' e1 e2 e3
    refine ⟨u', r', ?_⟩
    rcases q with q | ⟨k, c', e, z'⟩
    ·exact .inl q
    ·refine .inr ⟨k, c', e, z'.sameBut hs ?_⟩
     rintro rfl
     exact hj (rK hN e1 (I.ok.inj _ _ _ e hc ▸ hi))
  ·by_cases hcc : c' = c
   ·subst hcc; exact ⟨_, hc'⟩
   ·obtain ⟨w2, z2⟩ := I.cell y c' e
    exact ⟨w2, z2.sameBut hs hcc⟩
  ·obtain ⟨e, n, ne, nf, d⟩ := I.pin p hp
   refine ⟨(hs.2 p.1 ?_).trans e, n, ne, nf, d⟩
   intro q
   rw [q, hoc] at e
   have q' : oc = p.2 := Option.some.inj e
   exact d w' (by rw [← q']; exact hocd)
theorem oJ {M : Model} {A : Around} {E : Value → Shared → Prop} {i : Nat} {x : Str} {v : V} {u : Value} {Q : Unit → Shared → Prop} (I : Inv X pins σ H s) (hN : X.N.Nodup) (hi : X.N[i]? = some x) (hx : Loc X.env.scope x) (r : RelV v u)
  (h : ∀ s', Inv X pins (σ.set i (some v)) H s' → Q () s') (hf : X.fn x = true ∨ X.env.scope.names.lookup x = some .local := by first | exact .inl rfl | exact .inr rfl | assumption) : wpAny M A (storeName X.env x u) Q E s :=
 ux I hN hi hx r (fun s' I' _ => h s' I') hf
theorem Inv.call' {s' : Shared} {ch : List Addr} (I : Inv X pins σ H s) (ho : s'.os = s.os) (u : Un (frs X.stack) ch H H' s.heap s'.heap) (hok : HOk X.prog X.w H' s'.heap) (hg : AllBare s'.gens)
  (hch : ∀ b ∈ ch, (b ∈ X.ex ∨ X.s₀.heap.objs.size ≤ b) ∧ b ≠ X.env.locals ∧ (∀ x c, X.env.cells.lookup x = some c → c ≠ b) ∧ ∀ p ∈ X.pn ++ pins, p.1 ≠ b) : Inv X pins σ H' s' := by
 obtain ⟨h', g', d', t', o'⟩ := s'
 have e : o' = s.os := ho
 subst e
 exact I.call (g' := g') (t' := t') (d' := d') u hok hg hch
end
abbrev XK := Value → Option Addr → Hp → Prop
abbrev St := List (Option V)
abbrev VK := V → Hp → Prop
abbrev TE := St → Hp → VK → Prop
abbrev TT := St → Hp → (Bool → Hp → Prop) → Prop
abbrev TA := St → Hp → (List V → Hp → Prop) → Prop
structure Ends where
 nx : St → Hp → Prop
 rt : VK
 bk : St → Hp → Prop := fun _ _ => False
 ct : St → Hp → Prop := fun _ _ => False
abbrev TS := Ends → St → Hp → Prop
def EP (X : Cx) (pins : List (Addr × Obj)) (σ : St) (Q : VK) (u : Value) (s' : Shared) : Prop := ∃ v H', Inv X pins σ H' s' ∧ RelV v u ∧ Q v H'
def TP (X : Cx) (pins : List (Addr × Obj)) (σ : St) (Q : Bool → Hp → Prop) (b : Bool) (s' : Shared) : Prop := ∃ H', Inv X pins σ H' s' ∧ Q b H'
def AP (X : Cx) (pins : List (Addr × Obj)) (σ : St) (Q : List V → Hp → Prop) (us : List Value) (s' : Shared) : Prop := ∃ vs H', Inv X pins σ H' s' ∧ Vals vs us ∧ Q vs H'
def SP (X : Cx) (pins : List (Addr × Obj)) (D : Ends) (f : Flow) (s' : Shared) : Prop :=
 match f with
 | .next => ∃ σ' H', Inv X pins σ' H' s' ∧ D.nx σ' H'
 | .brk => ∃ σ' H', Inv X pins σ' H' s' ∧ D.bk σ' H'
 | .cont => ∃ σ' H', Inv X pins σ' H' s' ∧ D.ct σ' H'
 | .ret u => ∃ v σ' H', Inv X pins σ' H' s' ∧ RelV v u ∧ D.rt v H'
def PE (X : Cx) (e : Expr) (t : TE) : Prop :=
 ∀ (pins : List (Addr × Obj)) (s : Shared) (σ : St) (H : Hp) (Q : VK), Inv X pins σ H s → t σ H Q → wpAny (model X.prog X.w) X.A (eval e X.env) (EP X pins σ Q) X.xe s
def PT (X : Cx) (e : Expr) (t : TT) : Prop :=
 ∀ (pins : List (Addr × Obj)) (s : Shared) (σ : St) (H : Hp) (Q : Bool → Hp → Prop), Inv X pins σ H s → t σ H Q → wpAny (model X.prog X.w) X.A (isTrue e X.env (eval e X.env)) (TP X pins σ Q) X.xe s
def PW (X : Cx) (e : Expr) (t : TT) : Prop :=
 ∀ (whole : Sem Value) (pins : List (Addr × Obj)) (s : Shared) (σ : St) (H : Hp) (Q : Bool → Hp → Prop), Inv X pins σ H s → t σ H Q → wpAny (model X.prog X.w) X.A (isTrue e X.env whole) (TP X pins σ Q) X.xe s
theorem PW.pt {X : Cx} {e : Expr} {t : TT} (h : PW X e t) : PT X e t := h _
def PA (X : Cx) (es : List Expr) (t : TA) : Prop :=
 ∀ (pos : Pos) (pins : List (Addr × Obj)) (s : Shared) (σ : St) (H : Hp) (Q : List V → Hp → Prop), Inv X pins σ H s → t σ H Q → wpAny (model X.prog X.w) X.A (spliced (backTo pos (starEach es X.env))) (AP X pins σ Q) X.xe s
def PS (X : Cx) (st : Stmt) (t : TS) : Prop :=
 ∀ (pins : List (Addr × Obj)) (s : Shared) (σ : St) (H : Hp) (D : Ends), Inv X pins σ H s → t D σ H → wpAny (model X.prog X.w) X.A (exec st X.env) (SP X pins D) X.xe s
def PSs (X : Cx) (st : List Stmt) (t : TS) : Prop :=
 ∀ (pins : List (Addr × Obj)) (s : Shared) (σ : St) (H : Hp) (D : Ends), Inv X pins σ H s → t D σ H → wpAny (model X.prog X.w) X.A (execs st X.env) (SP X pins D) X.xe s
theorem thn {α : Type} {t : Sem α} {Q Q' : α → Shared → Prop} {M : Model} {A : Around} {E : Value → Shared → Prop} {s : Shared} (h : wpAny M A t Q E s) (hQ : ∀ a s, Q a s → Q' a s) : wpAny M A t Q' E s := wpAny_mono h hQ fun _ _ x => x
section
variable {X : Cx}
def Je (i : Nat) : TE := fun σ H Q => ∃ v, σ[i]? = some (some v) ∧ Q v H
def tC (v : V) : TE := fun _ H Q => Q v H
theorem Ip {i : Nat} {x : Str} {pos : Pos} (hN : X.N[i]? = some x) (hv : Vis X.env.scope x) (hd : (x == ("__debug__" : Str)) = false := by decide) (hcd : (x == ("__classdict__" : Str)) = false := by decide) : PE X (.Name x pos) (Je i) := by
 intro pins s σ H Q I h
 obtain ⟨v, e, h⟩ := h
 obtain ⟨m, hn, hl⟩ := I.loc
 obtain ⟨u, r, l⟩ := hl i x v hN e hv
 have fin : EP X pins σ Q u s := ⟨v, H, I, r, h⟩
 rcases l with ⟨hk, hm⟩ | ⟨hk, c, hc, hcell⟩
 ·exact wpAny_Name (wpAny_loadName_local I.ok.kind hk hn hm fin) hd
 ·rcases hk with hk | hk
  ·exact wpAny_Name (wpAny_loadName_cell I.ok.kind hk hc hcell fin) hd
  ·exact wpAny_Name (wpAny_loadName_free I.ok.kind hk hc hcell fin hcd) hd
theorem aA {i j pos} : PE X (.Constant (.int i) j pos) (tC (.int i)) := fun _ _ _ H _ I h => wpAny_Constant_int ⟨.int i, H, I.tok _, ⟨_, rfl⟩, h⟩
theorem gZ {b j pos} : PE X (.Constant (.bool b) j pos) (tC (.bl b)) := fun _ _ _ H _ I h => Constant_bool ⟨.bl b, H, I, rfl, h⟩
theorem uO {j pos} : PE X (.Constant .none j pos) (tC .non) := fun _ _ _ H _ I h => Constant_none ⟨.non, H, I, rfl, h⟩
theorem aJ {x j pos} : PE X (.Constant (.str x) j pos) (tC (.str x)) := fun _ _ _ H _ I h => Calls.Constant_str ⟨.str x, H, I.tok _, ⟨_, rfl⟩, h⟩
def Gl (X : Cx) (x : Str) : Prop := X.env.kindOf x = some .globalImplicit
theorem jP {E : Value → Shared → Prop} {pins : List (Addr × Obj)} {s : Shared} {σ : St} {H : Hp} {x : Str} {u : Value} {pos : Pos} {Q : Value → Shared → Prop} (I : Inv X pins σ H s) (hg : Gl X x) (hm : X.mg x = some u) (h : Q u s)
  (hd : (x == ("__debug__" : Str)) = false := by decide) : wpAny (model X.prog X.w) X.A (eval (.Name x pos) X.env) Q E s :=
 Calls.Name_function_global I.ok.kind hg (Calls.loadGlobal_global (by rw [I.ok.glob]; exact I.mod.glob.keeps I.bk) hm h) hd
theorem oU {E : Value → Shared → Prop} {pins : List (Addr × Obj)} {s : Shared} {σ : St} {H : Hp} {x : Str} {u : Value} {pos : Pos} {Q : Value → Shared → Prop} (I : Inv X pins σ H s) (hg : Gl X x) (hm : X.mg x = none) (hv : bootBuiltins x = some u) (h : Q u s)
  (hn : x ≠ "__name__" := by decide) (hd : (x == ("__debug__" : Str)) = false := by decide) : wpAny (model X.prog X.w) X.A (eval (.Name x pos) X.env) Q E s := by
 obtain ⟨mb, h1, h2⟩ := I.mod.blt
 exact Calls.Name_function_global I.ok.kind hg (Calls.loadGlobal_builtin (by rw [I.ok.glob]; exact I.mod.glob.keeps I.bk) hm (by rw [I.ok.blt]; exact h1.keeps I.bk) ((h2 x hn).trans hv) h) hd
theorem u9 {x : Str} {v : V} {u : Value} {pos : Pos} (hg : Gl X x) (hm : X.mg x = some u) (r : RelV v u) (hd : (x == ("__debug__" : Str)) = false := by decide) : PE X (.Name x pos) (tC v) :=
 fun _ _ _ H _ I h => jP I hg hm ⟨v, H, I, r, h⟩ hd
theorem yP {x : Str} {v : V} {u : Value} {pos : Pos} (hg : Gl X x) (hm : X.mg x = none) (hv : bootBuiltins x = some u) (r : RelV v u) (hn : x ≠ "__name__" := by decide) (hd : (x == ("__debug__" : Str)) = false := by decide) : PE X (.Name x pos) (tC v) :=
 fun _ _ _ H _ I h => oU I hg hm hv ⟨v, H, I, r, h⟩ hn hd
variable {a b : Expr} {ta tb : TE} {pos : Pos}
def PC (X : Cx) (op : CmpOp) (a b : Expr) (t : TE) : Prop :=
 ∀ (pins : List (Addr × Obj)) (s : Shared) (σ : St) (H : Hp) (Q : VK), Inv X pins σ H s → t σ H Q →
  wpAny (model X.prog X.w) X.A (eval a X.env) (fun v s₁ => wpAny (model X.prog X.w) X.A (eval b X.env) (fun u s₂ => wpAny (model X.prog X.w) X.A (compareOp op v u) (EP X pins σ Q) X.xe s₂) X.xe s₁) X.xe s
def tB (t : TE) : TT := fun σ H Q => t σ H fun x H1 => ∃ c, x = .bl c ∧ Q c H1
theorem Dd {op : CmpOp} {t : TE} (h : PC X op a b t) (h1 : behindInMarks op b = false := by first | exact nobehind _ (by decide) (by decide) | rfl) : PT X (.Compare a [op] [b] pos) (tB t) := by
 intro pins s σ H Q I hw
 refine wpAny_isTrue_Compare1 (thn (h pins s σ H _ I hw) fun v s1 h1 => thn h1 fun u s2 h2 => thn h2 fun c s3 ⟨x, H1, I1, r1, q1⟩ => ?_) h1
 obtain ⟨d, rfl, q⟩ := q1
 cases r1
 exact wpAny_truthy_bool ⟨H1, I1, q⟩
theorem gw {e : Expr} {t : TE} (h : PE X e t) (he : ∀ whole, isTrue e X.env whole = (do let v ← whole; standAt e.pos; holding [v] (truthy v)) := by intro _; rfl) : PT X e (tB t) := by
 intro pins s σ H Q I hw
 refine isTrue_plain (thn (h pins s σ H _ I hw) fun v s1 ⟨x, H1, I1, r1, q1⟩ => ?_) (he _)
 obtain ⟨d, rfl, q⟩ := q1
 cases r1
 exact wpAny_truthy_bool ⟨H1, I1, q⟩
variable {tA tB' : TT} {rest : List Expr}
def Tg (t u : TT) : TT := fun σ H Q => t σ H fun c H1 => if c = true then u σ H1 Q else Q false H1
def tOr (t u : TT) : TT := fun σ H Q => t σ H fun c H1 => if c = true then Q true H1 else u σ H1 Q
def RZ (t : TT) : TT := fun σ H Q => t σ H fun c H1 => Q (!c) H1
theorem qD (ha : PT X a tA) : PW X (.BoolOp .And [a] pos) tA := by
 intro wh pins s σ H Q I h
 refine isTrue_and (thn (ha pins s σ H Q I h) fun c s1 e => ?_)
 cases c with
 | true => exact isTrue_and_nil e
 | false => exact e
theorem vJ (ha : PT X a tA) : PW X (.BoolOp .Or [a] pos) tA := by
 intro wh pins s σ H Q I h
 refine isTrue_or (thn (ha pins s σ H Q I h) fun c s1 e => ?_)
 cases c with
 | false => exact isTrue_or_nil e
 | true => exact e
theorem rD (ha : PT X a tA) (hb : PW X (.BoolOp .And (b :: rest) pos) tB') : PW X (.BoolOp .And (a :: b :: rest) pos) (Tg tA tB') := by
 intro wh pins s σ H Q I h
 refine isTrue_and (thn (ha pins s σ H _ I h) fun c s1 ⟨H1, I1, q1⟩ => ?_)
 cases c with
 | true => exact hb wh pins s1 σ H1 Q I1 q1
 | false => exact ⟨H1, I1, q1⟩
theorem t6 (ha : PT X a tA) (hb : PW X (.BoolOp .Or (b :: rest) pos) tB') : PW X (.BoolOp .Or (a :: b :: rest) pos) (tOr tA tB') := by
 intro wh pins s σ H Q I h
 refine isTrue_or (thn (ha pins s σ H _ I h) fun c s1 ⟨H1, I1, q1⟩ => ?_)
 cases c with
 | true => exact ⟨H1, I1, q1⟩
 | false => exact hb wh pins s1 σ H1 Q I1 q1
theorem kZ (ha : PT X a tA) : PT X (.UnaryOp .Not a pos) (RZ tA) := by
 intro pins s σ H Q I h
 exact isTrue_not (ha pins s σ H (fun c H1 => Q (!c) H1) I h)
def Np (ta tb : TE) : TE := fun σ H Q => ta σ H fun x H1 => ∃ c, x = .bl c ∧ if c = true then tb σ H1 Q else Q (.bl false) H1
theorem Bk {op} {t : TE} (h : PE X a t) : PE X (.BoolOp op [a] pos) t := fun pins s σ H Q I hw => BoolOp_one (h pins s σ H Q I hw)
theorem Bx (ha : PE X a ta) (hb : PE X (.BoolOp .And (b :: rest) pos) tb) : PE X (.BoolOp .And (a :: b :: rest) pos) (Np ta tb) := by
 intro pins s σ H Q I h
 refine BoolOp_and (thn (ha pins s σ H _ I h) fun v s1 ⟨x, H1, I1, r1, q1⟩ => ?_)
 obtain ⟨c, rfl, q1⟩ := q1
 cases r1
 refine wpAny_truthy_bool ?_
 cases c with
 | true => exact hb pins s1 σ H1 Q I1 q1
 | false => exact ⟨.bl false, H1, I1, rfl, q1⟩
end
def SqL (K : PySem.W.Frag) (H : Hp) (a : Addr) (xs : List V) : Prop :=
 Rd H a (.lst xs) ∨
  ∃ (o : Obj) (its : Array Value) (n : Nat), K.lookup a = some o ∧ o.cls = .type "list" ∧ o.dict = none ∧ o.data = .seq its n ∧ its.size ≤ sizeLine ∧ Vals xs its.toList
def SqT (K : PySem.W.Frag) (H : Hp) (a : Addr) (xs : List V) : Prop :=
 Rd H a (.tup xs) ∨
  ∃ (o : Obj) (its : Array Value) (n : Nat), K.lookup a = some o ∧ o.cls = .type "tuple" ∧ o.data = .seq its n ∧ its.size ≤ sizeLine ∧ Vals xs its.toList
def Uh : Value → Option V
 | .none => some .non
 | .bool b => some (.bl b)
 | .int i _ => some (.int i)
 | .str x _ => some (.str x)
 | .bytes b _ => some (.byt b)
 | .float b _ => some (.flt b)
 | .ref a => some (.ref a)
 | .type n => some (.ty n)
 | _ => none
theorem RelV.abs {x : V} {u : Value} (r : RelV x u) : Uh u = some x := by
 cases x with
 | non => cases r; rfl
 | bl _ => cases r; rfl
 | int _ => obtain ⟨t, rfl⟩ := r; rfl
 | str _ => obtain ⟨t, rfl⟩ := r; rfl
 | byt _ => obtain ⟨t, rfl⟩ := r; rfl
 | flt _ => obtain ⟨t, rfl⟩ := r; rfl
 | ref _ => cases r; rfl
 | ty _ => cases r; rfl
theorem RelV.inj {x y : V} {u : Value} (r : RelV x u) (q : RelV y u) : x = y := Option.some.inj (r.abs.symm.trans q.abs)
theorem Vals.inj : ∀ {xs ys : List V} {us : List Value}, Vals xs us → Vals ys us → xs = ys
 | _, _, _, .nil, .nil => rfl
 | _, _, _, .cons r t, .cons r' t' => by rw [r.inj r', Vals.inj t t']
section
variable {X : Cx} {pins : List (Addr × Obj)} {σ : St} {H : Hp} {s : Shared} {a : Addr} {xs ys : List V}
theorem SqL.of {K : PySem.W.Frag} (h : H a = some (.lst xs)) : SqL K H a xs := .inl (.inl h)
theorem SqT.of {K : PySem.W.Frag} (h : H a = some (.tup xs)) : SqT K H a xs := .inl (.inl h)
theorem Inv.list (I : Inv X pins σ H s) (h : SqL X.K H a xs) : ∃ its : List Value, Vals xs its ∧ PlainL s.heap a its.toArray ∧ xs.length ≤ sizeLine := by
 rcases h with h | ⟨o, its, n, hk, hc, hd, hs, hz, r⟩
 ·obtain ⟨z, its, n, r, e⟩ := h.ok I.hok
  exact ⟨its, r, ⟨_, n, e, rfl, rfl, rfl⟩, z⟩
 ·refine ⟨its.toList, r, ⟨o, n, I.kIn a o hk, hc, hd, by simpa using hs⟩, ?_⟩
  have e := r.length
  simp only [Array.length_toList] at e
  omega
theorem Inv.tuple (I : Inv X pins σ H s) (h : SqT X.K H a xs) : ∃ its : List Value, Vals xs its ∧ IsTup s.heap a its.toArray ∧ xs.length ≤ sizeLine := by
 rcases h with h | ⟨o, its, n, hk, hc, hs, hz, r⟩
 ·obtain ⟨z, its, r, p⟩ := h.ok I.hok
  exact ⟨its, r, p, z⟩
 ·refine ⟨its.toList, r, ⟨o, I.kIn a o hk, hc, n, by simpa using hs⟩, ?_⟩
  have e := r.length
  simp only [Array.length_toList] at e
  omega
theorem Inv.list_inj (I : Inv X pins σ H s) (h : SqL X.K H a xs) (h' : SqL X.K H a ys) : xs = ys := by
 obtain ⟨its, r, ⟨o, n, e, _, _, d⟩, _⟩ := I.list h
 obtain ⟨its', r', ⟨o', n', e', _, _, d'⟩, _⟩ := I.list h'
 rw [e] at e'; cases e'
 rw [d] at d'
 injection d' with d1 _
 have : its = its' := by simpa using congrArg Array.toList d1
 subst this
 exact r.inj r'
end
abbrev Cx.wish (X : Cx) (E : Value → Shared → Prop) : Cx := { X with xe := E }
abbrev Cx.nox (X : Cx) : Cx := X.wish fun _ _ => False
theorem Cx.Ok.wish {X : Cx} (ok : X.Ok) (E : Value → Shared → Prop) : (X.wish E).Ok :=
 ⟨ok.mod, ok.kind, ok.glob, ok.blt, ok.above, ok.inj, ok.has, ok.cab, ok.hd, ok.frames, ok.stk, ok.exf, ok.bs, ok.bsz, ok.noex, ok.exfs, ok.funs, ok.frf⟩
theorem Cx.Ok.unwish {X : Cx} {E : Value → Shared → Prop} (ok : (X.wish E).Ok) : X.Ok :=
 ⟨ok.mod, ok.kind, ok.glob, ok.blt, ok.above, ok.inj, ok.has, ok.cab, ok.hd, ok.frames, ok.stk, ok.exf, ok.bs, ok.bsz, ok.noex, ok.exfs, ok.funs, ok.frf⟩
section
variable {X : Cx} {pins : List (Addr × Obj)} {σ : St} {H : Hp} {s : Shared} {E : Value → Shared → Prop}
theorem Inv.wish (I : Inv X pins σ H s) (E : Value → Shared → Prop) : Inv (X.wish E) pins σ H s := ⟨I.ok.wish E, I.os, I.bare, I.base, I.loc, I.cell, I.free, I.freeC, I.pin, I.hok, I.len⟩
theorem Inv.unwish (I : Inv (X.wish E) pins σ H s) : Inv X pins σ H s := ⟨I.ok.unwish, I.os, I.bare, I.base, I.loc, I.cell, I.free, I.freeC, I.pin, I.hok, I.len⟩
theorem SP.unwish {D : Ends} {f : Flow} {s' : Shared} (h : SP (X.wish E) pins D f s') : SP X pins D f s' := by
 cases f with
 | next => obtain ⟨σ', H', I, q⟩ := h; exact ⟨σ', H', I.unwish, q⟩
 | brk => obtain ⟨σ', H', I, q⟩ := h; exact ⟨σ', H', I.unwish, q⟩
 | cont => obtain ⟨σ', H', I, q⟩ := h; exact ⟨σ', H', I.unwish, q⟩
 | ret u => obtain ⟨v, σ', H', I, r, q⟩ := h; exact ⟨v, σ', H', I.unwish, r, q⟩
theorem PSs.nox {st : List Stmt} {t : TS} (h : PSs X.nox st t) : PSs X st t := fun pins s σ H D I hw =>
 wpAny_mono (h pins s σ H D (I.wish _) hw) (fun _ _ q => q.unwish) fun _ _ z => False.elim z
end
section
variable {X : Cx} {st : Stmt} {rest : List Stmt} {t u : TS} {e : Expr} {te : TE} {pos : Pos}
def GF : TS := fun D σ H => D.nx σ H
def N6 (t u : TS) : TS := fun D σ H => t { D with nx := u D } σ H
theorem uC : PSs X [] GF := fun _ _ σ H _ I h => wpAny_execs_nil ⟨σ, H, I, h⟩
theorem gb (h1 : PS X st t) (h2 : PSs X rest u) : PSs X (st :: rest) (N6 t u) := by
 intro pins s σ H D I h
 refine wpAny_execs_cons (thn (h1 pins s σ H { D with nx := u D } I h) fun f s1 q => ?_)
 cases f with
 | next =>
  obtain ⟨σ', H', I', q⟩ := q
  exact h2 pins s1 σ' H' D I' q
 | ret v => exact q
 | brk => exact q
 | cont => exact q
theorem oH (h1 : PS X st t) : PSs X [st] t := by
 intro pins s σ H D I h
 refine wpAny_execs_cons (thn (h1 pins s σ H D I h) fun f s1 q => ?_)
 cases f with
 | next => exact wpAny_execs_nil q
 | ret v => exact q
 | brk => exact q
 | cont => exact q
theorem Inv.quiet {pins : List (Addr × Obj)} {σ : St} {H : Hp} {s : Shared} (I : Inv X pins σ H s) : interactive X.env = false := by simp [interactive, I.ok.kind]
def GQ (te : TE) : TS := fun D σ H => te σ H fun _ H1 => D.nx σ H1
theorem Eu (he : PE X e te) (hs : swapsWith e none pos.line X.env = pure false := by rfl) : PS X (.Expr e pos) (GQ te) := by
 intro pins s σ H D I h
 exact wpAny_Expr_any (thn (he pins s σ H _ I h) fun v s1 ⟨x, H1, I1, r1, q1⟩ => ⟨σ, H1, I1, q1⟩) I.quiet hs
def Oc (te : TE) : TS := fun D σ H => te σ H D.rt
theorem rn (he : PE X e te) : PS X (.Return (some e) pos) (Oc te) := by
 intro pins s σ H D I h
 exact wpAny_Return_some (thn (he pins s σ H _ I h) fun v s1 ⟨x, H1, I1, r1, q1⟩ => ⟨x, σ, H1, I1, r1, q1⟩)
def Nu (c : TT) (t u : TS) : TS := fun D σ H => c σ H fun b H1 => if b = true then t D σ H1 else u D σ H1
theorem Be {c : Expr} {a b : List Stmt} {tc : TT} (hc : PT X c tc) (ha : PSs X a t) (hb : PSs X b u) : PS X (.If c a b pos) (Nu tc t u) := by
 intro pins s σ H D I h
 refine wpAny_If (thn (hc pins s σ H _ I h) fun d s1 ⟨H1, I1, q1⟩ => ?_)
 cases d with
 | true => exact ha pins s1 σ H1 D I1 q1
 | false => exact hb pins s1 σ H1 D I1 q1
def Ec : TS := fun _ _ _ => False
theorem Ck : PS X st Ec := fun _ _ _ _ _ _ h => h.elim
end
abbrev TG := V → St → Hp → (St → Hp → Prop) → Prop
abbrev TGs := List V → St → Hp → (St → Hp → Prop) → Prop
def PG (X : Cx) (target : Expr) (t : TG) : Prop :=
 ∀ (pins : List (Addr × Obj)) (s : Shared) (σ : St) (H : Hp) (v : V) (u : Value) (Q : St → Hp → Prop), Inv X pins σ H s → RelV v u → t v σ H Q →
  wpAny (model X.prog X.w) X.A (assign target X.env u) (fun _ s' => ∃ σ' H', Inv X pins σ' H' s' ∧ Q σ' H') X.xe s
def PGs (X : Cx) (ts : List Expr) (t : TGs) : Prop :=
 ∀ (pins : List (Addr × Obj)) (s : Shared) (σ : St) (H : Hp) (vs : List V) (us : List Value) (Q : St → Hp → Prop), Inv X pins σ H s → Vals vs us → t vs σ H Q →
  wpAny (model X.prog X.w) X.A (assignInOrder ((assignEach ts X.env).map (·.2)) us) (fun _ s' => ∃ σ' H', Inv X pins σ' H' s' ∧ Q σ' H') X.xe s
section
variable {X : Cx} {pos : Pos}
def gY (i : Nat) : TG := fun v σ H Q => Q (σ.set i (some v)) H
theorem aL {i : Nat} {x : Str} (hN : X.N.Nodup) (hi : X.N[i]? = some x) (hx : Loc X.env.scope x) (hf : X.fn x = true ∨ X.env.scope.names.lookup x = some .local := by first | exact .inl rfl | exact .inr rfl | assumption) : PG X (.Name x pos) (gY i) := by
 intro pins s σ H v u Q I r h
 exact wpAny_assign_Name (oJ I hN hi hx r (fun s' I' => ⟨_, H, I', h⟩) hf)
def Ti : TGs := fun vs σ H Q => vs = [] ∧ Q σ H
def PK (t : TG) (u : TGs) : TGs := fun vs σ H Q => ∃ v r, vs = v :: r ∧ t v σ H fun σ' H' => u r σ' H' Q
theorem nO : PGs X [] Ti := by
 intro pins s σ H vs us Q I r h
 obtain ⟨e, h⟩ := h
 subst e
 cases r
 exact assignInOrder_nil ⟨σ, H, I, h⟩
theorem bL {e : Expr} {es : List Expr} {t : TG} {u : TGs} (h1 : PG X e t) (h2 : PGs X es u)
  (hs : (assignEach (e :: es) X.env).map (·.2) = assign e X.env :: (assignEach es X.env).map (·.2) := by rfl) : PGs X (e :: es) (PK t u) := by
 intro pins s σ H vs us Q I r h
 obtain ⟨v, vr, e1, h⟩ := h
 subst e1
 cases r with
 | cons r rr =>
  rw [hs]
  refine assignInOrder_cons (thn (h1 pins s σ H _ _ _ I r h) fun _ s1 ⟨σ1, H1, I1, q1⟩ => ?_)
  exact h2 pins s1 σ1 H1 _ _ Q I1 rr q1
def N5 (K : PySem.W.Frag) (n : Nat) (t : TGs) : TG := fun v σ H Q => ∃ a xs, v = .ref a ∧ SqT K H a xs ∧ xs.length = n ∧ t xs σ H Q
theorem Hw {es : List Expr} {k : Nat} {t : TGs} {n : Nat} (hc : X.calm = true) (h : PGs X es t)
  (hn : (assignEach es X.env).length = n := by rfl) (hst : (assignEach es X.env).findIdx? (·.1) = none := by rfl) : PG X (.Tuple es k pos) (N5 X.K n t) := by
 intro pins s σ H v u Q I r hw
 obtain ⟨a, xs, e1, hq, hl, hw⟩ := hw
 subst e1
 cases r
 obtain ⟨its, rv, ht, hz⟩ := I.tuple hq
 refine assign_Tuple_tuple (I.ok.hd hc) ht (by simp [hn, ← hl, rv.length]) hst fun h' hx => ?_
 have I1 : Inv X pins σ H { s with heap := h' } := I.kept (t' := s.toks) fun b o e => hx b o (Nat.ne_of_lt (Heap.lt_size e)) e
 exact h pins _ σ H xs _ Q I1 (by simpa using rv) hw
def xN (te : TE) (g : TG) : TS := fun D σ H => te σ H fun x H1 => g x σ H1 D.nx
theorem Hl {tg e : Expr} {te : TE} {g : TG} (he : PE X e te) (hg : PG X tg g) (hs : swapsWithSole [tg] e pos.line X.env = pure false := by rfl) (hw : swappedStores [tg] e X.env = pure none := by rfl)
  (h1 : (assignEach [tg] X.env).map (·.2) = [assign tg X.env] := by rfl) : PS X (.Assign [tg] e pos) (xN te g) := by
 intro pins s σ H D I h
 refine wpAny_Assign_stores (thn (he pins s σ H _ I h) fun v s1 ⟨x, H1, I1, r1, q1⟩ => ?_) hs hw
 rw [h1]
 exact thn (hg pins s1 σ H1 x v _ I1 r1 q1) fun _ s2 q => q
theorem nq {i : Nat} {x : Str} {e : Expr} {te : TE} {pos' : Pos} (hN : X.N.Nodup) (hi : X.N[i]? = some x) (hx : Loc X.env.scope x) (he : PE X e te) (hs : swapsWith e (some (.Name x pos')) pos.line X.env = pure false := by rfl) (hf : X.fn x = true ∨ X.env.scope.names.lookup x = some .local := by first | exact .inl rfl | exact .inr rfl | assumption) :
  PS X (.Assign [.Name x pos'] e pos) (xN te (gY i)) := by
 intro pins s σ H D I h
 refine wpAny_Assign_Name (thn (he pins s σ H _ I h) fun v s1 ⟨y, H1, I1, r1, q1⟩ => ?_) hs
 exact oJ I1 hN hi hx r1 (fun s2 I2 => ⟨_, H1, I2, q1⟩) hf
end
section
variable {X : Cx} {pos : Pos}
def Hr (c : TT) (tb : TS) : TS := fun D σ H => ∃ W : Nat → St → Hp → Prop, (∃ m, W m σ H) ∧ ∀ m σ H, W m σ H →
 c σ H fun b H1 => if b = true then ∃ N : St → Hp → Prop, (∀ σ' H', N σ' H' → ∃ m', m' < m ∧ W m' σ' H') ∧ tb { D with nx := N, ct := N, bk := D.nx } σ H1 else D.nx σ H1
theorem qL {c : Expr} {body : List Stmt} {tc : TT} {tb : TS} (hp : PassesOwn (model X.prog X.w) X.A X.env X.xe) (hc : PT X c tc) (hb : PSs X body tb) : PS X (.While c body [] pos) (Hr tc tb) := by
 intro pins s σ H D I h
 obtain ⟨W, ⟨m0, w0⟩, turn⟩ := h
 refine wpAny_While (codeAny_whileLoop (fun n s' => ∃ σ' H', Inv X pins σ' H' s' ∧ W n σ' H') ?_ m0 ⟨σ, H, I, w0⟩)
 rintro n s1 ⟨σ1, H1, I1, w1⟩
 refine wpAny_passesOwn hp (thn (hc pins s1 σ1 H1 _ I1 (turn n σ1 H1 w1)) fun b s2 ⟨H2, I2, q2⟩ => ?_)
 cases b with
 | true =>
  obtain ⟨N, hN, q2⟩ := q2
  rw [if_pos rfl]
  refine wpAny_passesOwn hp (thn (hb pins s2 σ1 H2 _ I2 q2) fun f s3 q3 => ?_)
  cases f with
  | next =>
   obtain ⟨σ3, H3, I3, n3⟩ := q3
   obtain ⟨m', hm, w3⟩ := hN σ3 H3 n3
   exact ⟨m', hm, σ3, H3, I3, w3⟩
  | cont =>
   obtain ⟨σ3, H3, I3, n3⟩ := q3
   obtain ⟨m', hm, w3⟩ := hN σ3 H3 n3
   exact ⟨m', hm, σ3, H3, I3, w3⟩
  | brk => exact q3
  | ret v => exact q3
 | false =>
  rw [if_neg Bool.false_ne_true]
  exact wpAny_execs_nil ⟨σ1, H2, I2, q2⟩
end
structure It where
 go : Nat → Hp → Prop
 yld : Nat → Hp → V → Hp → Prop
 stop : Nat → Hp → Prop
def rB (X : Cx) (pins : List (Addr × Obj)) (H : Hp) (b : Addr) : Prop :=
 H b = none ∧ b ≠ X.env.locals ∧ b ∉ X.fs ∧ (b ∈ X.ex ∨ X.s₀.heap.objs.size ≤ b) ∧ (∀ x c, X.env.cells.lookup x = some c → c ≠ b) ∧ ∀ p ∈ X.pn ++ pins, p.1 ≠ b
theorem Inv.fpOk {X : Cx} {pins : List (Addr × Obj)} {σ : St} {H H' : Hp} {s : Shared} {b : Addr} (I : Inv X pins σ H s) (hb : s.heap.objs.size ≤ b) (hn : H' b = none) : rB X pins H' b := by
 refine ⟨hn, Nat.ne_of_gt (Nat.lt_of_lt_of_le I.lt hb), I.nofs hb, .inr (Nat.le_trans I.sz hb), fun x c e z => ?_, fun p hp z => ?_⟩
 ·obtain ⟨v, q⟩ := I.cell x c e
  exact absurd (Nat.lt_of_lt_of_le q.lt (by rw [z]; exact hb)) (Nat.lt_irrefl _)
 ·exact absurd (Nat.lt_of_lt_of_le (Heap.lt_size (I.pin p hp).1) (by rw [z]; exact hb)) (Nat.lt_irrefl _)
structure Turn (P : Program) (w : World) (K : PySem.W.Frag) (tg : Expr) (J : It) (fp : List Addr) (it : Addr) (tn : Nat → Heap → Prop) : Prop where
 mem : it ∈ fp
 obj : ∀ i h, tn i h → ∀ b ∈ fp, ∃ o, h.get? b = some o ∧ ∀ v, o.data ≠ .cell v
 keep : ∀ i h h', tn i h → (∀ b ∈ fp, ∀ o, h.get? b = some o → h'.get? b = some o) → tn i h'
 item : ∀ (X : Cx), X.prog = P → X.w = w → X.K = K → X.calm = true → ∀ (i : Nat) (pins : List (Addr × Obj)) (s : Shared) (σ : St) (H : Hp) (E : Value → Shared → Prop), Inv X pins σ H s → (∀ b ∈ fp, rB X pins H b) → tn i s.heap → J.go i H →
  wpAny (model P w) X.A (pyNext (.ref it)) (fun r s1 => ∃ u, r = some u ∧
   wpAny (model P w) X.A (letOwnedTupleGo tg (.ref it) u) (fun _ s2 => ∃ x H', Inv X pins σ H' s2 ∧ RelV x u ∧ J.yld i H x H' ∧ tn (i + 1) s2.heap ∧ ∀ b ∈ fp, H' b = none) E s1) E s
 done : ∀ (X : Cx), X.prog = P → X.w = w → X.K = K → X.calm = true → ∀ (i : Nat) (pins : List (Addr × Obj)) (s : Shared) (σ : St) (H : Hp) (E : Value → Shared → Prop), Inv X pins σ H s → (∀ b ∈ fp, rB X pins H b) → tn i s.heap → J.stop i H →
  wpAny (model P w) X.A (pyNext (.ref it)) (fun r s1 => r = none ∧ Inv X pins σ H s1) E s
 self : ∀ (A : Around) (i : Nat) (s : Shared) (Q : Value → Shared → Prop) (E : Value → Shared → Prop), tn i s.heap → Q (.ref it) s → wpAny (model P w) A (pyIter (.ref it)) Q E s
abbrev TI := St → Hp → (It → Hp → Prop) → Prop
def PIE (X : Cx) (pins : List (Addr × Obj)) (σ : St) (tg : Expr) (R : It → Hp → Prop) (itv : Value) (s2 : Shared) : Prop :=
 ∃ (it : Addr) (fp : List Addr) (tn : Nat → Heap → Prop) (J : It) (H' : Hp), itv = .ref it ∧ Inv X pins σ H' s2 ∧ Turn X.prog X.w X.K tg J fp it tn ∧ tn 0 s2.heap ∧ (∀ b ∈ fp, rB X pins H' b) ∧ R J H'
def PI (X : Cx) (tg iter : Expr) (wi : TI) : Prop :=
 ∀ (pins : List (Addr × Obj)) (s : Shared) (σ : St) (H : Hp) (R : It → Hp → Prop), Inv X pins σ H s → wi σ H R →
  wpAny (model X.prog X.w) X.A (eval iter X.env) (fun v s1 => wpAny (model X.prog X.w) X.A (pyIter v) (PIE X pins σ tg R) X.xe s1) X.xe s
theorem Ca {M : Model} {A : Around} {E : Value → Shared → Prop} {s : Shared} {tg : Expr} {it : Addr} {u : Value} {o : Obj} {n : String} {vs : Array Value} {Q : Unit → Shared → Prop} (ho : s.heap.get? it = some o) (hc : o.cls = .type n) (hd : o.data = .fields vs)
  (hn : ["enumerate", "zip", "dict_itemiterator", "dict_reverseitemiterator", "odict_iterator", "itertools.zip_longest", "itertools.pairwise"].contains n = false) (hQ : Q () s) : wpAny M A (letOwnedTupleGo tg (.ref it) u) Q E s := by
 unfold letOwnedTupleGo
 cases tg <;> first
  | exact wpAny_pure hQ
  | (cases u <;> first
    | exact wpAny_pure hQ
    | (refine wpAny_bind (wpAny_load ho ?_)
       rw [hc, hd]
       show wpAny M A (if (["enumerate", "zip", "dict_itemiterator", "dict_reverseitemiterator", "odict_iterator", "itertools.zip_longest", "itertools.pairwise"].contains n && vs[0]? == some (rawInt _)) = true then _ else _) Q E s
       rw [if_neg (by intro h; rw [hn, Bool.false_and] at h; cases h)]
       exact wpAny_pure hQ))
def Itl (K : PySem.W.Frag) (a : Addr) : It :=
 ⟨fun i H => ∃ xs x, SqL K H a xs ∧ xs[i]? = some x, fun i H x H' => H' = H ∧ ∀ xs, SqL K H a xs → xs[i]? = some x, fun i H => ∃ xs, SqL K H a xs ∧ xs.length ≤ i⟩
def Itr (lo : Int) (n : Nat) : It := ⟨fun i _ => i < n, fun i H x H' => H' = H ∧ x = .int (lo + i), fun i _ => n ≤ i⟩
theorem Ac {P : Program} {w : World} {K : PySem.W.Frag} {tg : Expr} (a it : Addr) : Turn P w K tg (Itl K a) [it] it (fun i h => h.IsListIter it a i) where
 mem := by simp
 obj := fun i h st b hb => by
  have e : b = it := by simpa using hb
  subst e
  obtain ⟨o, e, c, d⟩ := st
  exact ⟨o, e, fun v z => by rw [d] at z; cases z⟩
 keep := fun i h h' st k => st.at fun o e => k it (by simp) o e
 item := by
  intro X hP hw hK hc i pins s σ H E I hf st hg
  subst hP hw hK
  obtain ⟨xs, x, hq, hx⟩ := hg
  obtain ⟨its, rv, p, hz⟩ := I.list hq
  obtain ⟨u, hu, ru⟩ := rv.get hx
  obtain ⟨f0, f1, f2, f3, f4, f5⟩ := hf it (by simp)
  refine wpAny_pyNext_list_item st p.isList (x := u) (by simpa using hu) fun h' st' sb => ?_
  have I1 : Inv X pins σ H { s with heap := h' } := I.turned (t' := s.toks) (fun b o hb e => (sb.2 b hb).trans e) f0 f1 f3 f4 f5
  obtain ⟨o, e, c, d⟩ := id st'
  exact ⟨u, rfl, Ca (s := { s with heap := h' }) e c d (by decide) ⟨x, H, I1, ru, ⟨rfl, fun ys hy => by rw [I.list_inj hy hq]; exact hx⟩, st', fun b hb => (hf b hb).1⟩⟩
 done := by
  intro X hP hw hK hc i pins s σ H E I hf st hg
  subst hP hw hK
  obtain ⟨xs, hq, hx⟩ := hg
  obtain ⟨its, rv, p, hz⟩ := I.list hq
  obtain ⟨f0, f1, f2, f3, f4, f5⟩ := hf it (by simp)
  have hl := rv.length
  exact wpAny_pyNext_list_end (I.ok.hd hc) st p.isList (by simp; omega) fun h' eb => ⟨rfl, I.turned (t' := s.toks) (fun b o hb e => eb b o hb e) f0 f1 f3 f4 f5⟩
 self := fun _ _ _ _ _ st h => wpAny_pyIter_listiter st h
theorem xO {P : Program} {w : World} {K : PySem.W.Frag} {tg : Expr} (it : Addr) (lo : Int) (n : Nat) : Turn P w K tg (Itr lo n) [it] it (fun i h => IsRangeIter h it (lo + (i : Nat) * 1) ((n : Int) - (i : Nat)) 1) where
 mem := by simp
 obj := fun i h st b hb => by
  have e : b = it := by simpa using hb
  subst e
  exact ⟨_, st, fun v z => by
   have z' : Data.fields _ = Data.cell v := z
   cases z'⟩
 keep := fun i h h' st k => k it (by simp) _ st
 item := by
  intro X hP hw hK hc i pins s σ H E I hf st hg
  subst hP hw hK
  obtain ⟨f0, f1, f2, f3, f4, f5⟩ := hf it (by simp)
  have W := Walks.range (prog := X.prog) (w := X.w) (I.ok.hd hc) it lo 1 n
  refine W.item i s _ _ hg st fun v h' tk hv st' kk => ?_
  obtain ⟨t, rfl⟩ := hv
  have I1 : Inv X pins σ H { s with heap := h', toks := tk } := I.turned (fun b o hb e => kk b o (by simpa using hb) e) f0 f1 f3 f4 f5
  refine ⟨_, rfl, Ca (s := { s with heap := h', toks := tk }) (n := "range_iterator") st' rfl rfl (by decide) ⟨.int (lo + i), H, I1, ⟨t, ?_⟩, ⟨rfl, rfl⟩, st', fun b hb => (hf b hb).1⟩⟩
  rw [Int.mul_one]
 done := by
  intro X hP hw hK hc i pins s σ H E I hf st hg
  subst hP hw hK
  obtain ⟨f0, f1, f2, f3, f4, f5⟩ := hf it (by simp)
  exact wpAny_pyNext_range_end (I.ok.hd hc) st (by have : n ≤ i := hg; omega) fun h' eb => ⟨rfl, I.turned (t' := s.toks) (fun b o hb e => eb b o hb e) f0 f1 f3 f4 f5⟩
 self := fun _ _ _ _ _ st h => wpAny_pyIter_rangeiter st h
section
variable {X : Cx} {tg : Expr}
def Gx (K : PySem.W.Frag) (tl : TE) : TI := fun σ H R => tl σ H fun x H1 => ∃ a, x = .ref a ∧ (∃ xs, SqL K H1 a xs) ∧ R (Itl K a) H1
theorem bj {l : Expr} {tl : TE} (hl : PE X l tl) : PI X tg l (Gx X.K tl) := by
 intro pins s σ H R I h
 refine thn (hl pins s σ H _ I h) fun v s1 ⟨x, H1, I1, r1, q1⟩ => ?_
 obtain ⟨a, e, ⟨xs, hq⟩, q⟩ := q1
 subst e
 cases r1
 obtain ⟨its, rv, p, hz⟩ := I1.list hq
 refine wpAny_pyIter_list p.isList ?_
 refine ⟨s1.heap.objs.size, [s1.heap.objs.size], _, _, H1, rfl, I1.kept (t' := s1.toks) fun b o e => Heap.get?_push_of_some _ e, Ac a _, ⟨_, Heap.get?_push_size _ rfl, rfl, rfl⟩, fun b hb => ?_, q⟩
 have e : b = s1.heap.objs.size := by simpa using hb
 subst e
 exact I1.fpOk (Nat.le_refl _) (I1.hok.fresh (Nat.le_refl _))
theorem wL {pins : List (Addr × Obj)} {σ : St} {H : Hp} {s : Shared} {R : It → Hp → Prop} {E : Value → Shared → Prop} {lo hi : Int} {t u v : Tok} {tk : Nat} (I : Inv X pins σ H s) (h1 : -(2 ^ 62) ≤ lo) (h2 : lo < 2 ^ 62) (h3 : -(2 ^ 62) ≤ hi) (h4 : hi < 2 ^ 62)
  (q : R (Itr lo (hi - lo).toNat) H) : wpAny (model X.prog X.w) X.A (pyIter (.ref s.heap.objs.size)) (PIE X pins σ tg R) E { s with heap := s.heap.push { cls := .type "range", data := .fields #[.int lo t, .int hi u, .int 1 v] }, toks := tk } := by
 refine wpAny_pyIter_range (IsRange.new ..) (small_one h1 h2 h3 h4) ?_
 have I1 : Inv X pins σ H { s with heap := s.heap.push { cls := .type "range", data := .fields #[.int lo t, .int hi u, .int 1 v] }, toks := tk } := I.kept fun b o e => Heap.get?_push_of_some _ e
 refine ⟨(s.heap.push { cls := .type "range", data := .fields #[.int lo t, .int hi u, .int 1 v] }).objs.size, [(s.heap.push { cls := .type "range", data := .fields #[.int lo t, .int hi u, .int 1 v] }).objs.size], _, _, H, rfl,
  I1.kept (t' := tk) fun b o e => Heap.get?_push_of_some _ e, xO _ lo (hi - lo).toNat, ?_, fun b hb => ?_, q⟩
 ·have e1 : lo + ((0 : Nat) : Int) * 1 = lo := by simp
  have e2 : (((hi - lo).toNat : Nat) : Int) - ((0 : Nat) : Int) = Builtin.Range.rangeSize lo hi 1 := by rw [rangeSize_one]; split <;> omega
  show IsRangeIter _ _ (lo + ((0 : Nat) : Int) * 1) ((((hi - lo).toNat : Nat) : Int) - ((0 : Nat) : Int)) 1
  rw [e1, e2]
  exact Heap.get?_push_size _ rfl
 ·have e : b = (s.heap.push { cls := .type "range", data := .fields #[.int lo t, .int hi u, .int 1 v] }).objs.size := by simpa using hb
  subst e
  exact I1.fpOk (Nat.le_refl _) (I1.hok.fresh (Nat.le_refl _))
def J0 (ta : TA) : TI := fun σ H R => ta σ H fun vs H1 => ∃ j : Int, vs = [.int j] ∧ -(2 ^ 62) ≤ j ∧ j < 2 ^ 62 ∧ R (Itr 0 j.toNat) H1
def Mu (ta : TA) : TI := fun σ H R => ta σ H fun vs H1 => ∃ i j : Int, vs = [.int i, .int j] ∧ (-(2 ^ 62) ≤ i ∧ i < 2 ^ 62 ∧ -(2 ^ 62) ≤ j ∧ j < 2 ^ 62) ∧ R (Itr i (j - i).toNat) H1
theorem gU {a : Expr} {ta : TA} {p pos : Pos} (hg : Gl X "range") (hm : X.mg "range" = none) (ha : PA X [a] ta) (hs : starEach [a] X.env = [(false, eval a X.env)] := by rfl) : PI X tg (.Call (.Name "range" p) [a] [] pos) (J0 ta) := by
 intro pins s σ H R I h
 refine Call_ (oU I hg hm boot_range (PyProof.Rows.callWith_type1 (thn (ha pos pins s σ H _ I h) fun us s1 ⟨vs, H1, I1, r1, q1⟩ => ?_) hs rfl))
 obtain ⟨j, e, q1, q2, q⟩ := q1
 subst e
 cases r1 with
 | cons r rr =>
  cases rr
  obtain ⟨t, rfl⟩ := r
  exact call_range_1 (wL I1 (by omega) (by omega) q1 q2 (by simpa using q))
theorem pD {a b : Expr} {ta : TA} {p pos : Pos} (hg : Gl X "range") (hm : X.mg "range" = none) (ha : PA X [a, b] ta) (hs : starEach [a, b] X.env = [(false, eval a X.env), (false, eval b X.env)] := by rfl) (hs2 : starEach [b] X.env = [(false, eval b X.env)] := by rfl) :
  PI X tg (.Call (.Name "range" p) [a, b] [] pos) (Mu ta) := by
 intro pins s σ H R I h
 refine Call_ (oU I hg hm boot_range (PyProof.Rows.callWith_type1 (thn (ha pos pins s σ H _ I h) fun us s1 ⟨vs, H1, I1, r1, q1⟩ => ?_) (by rw [hs, hs2]) (by rw [hs2]; rfl)))
 obtain ⟨i, j, e, ⟨q1, q2, q3, q4⟩, q⟩ := q1
 subst e
 cases r1 with
 | cons r rr =>
  cases rr with
  | cons r' rr =>
   cases rr
   obtain ⟨t, rfl⟩ := r
   obtain ⟨t', rfl⟩ := r'
   exact call_range_2 (wL I1 q1 q2 q3 q4 q)
def PP (wi : TI) (g : TG) (tb : TS) : TS := fun D σ H => wi σ H fun J H1 => ∃ W : Nat → Nat → St → Hp → Prop, (∃ m, W 0 m σ H1) ∧ ∀ i m σ H, W i m σ H →
 (J.stop i H ∧ D.nx σ H) ∨ (J.go i H ∧ ∃ N : St → Hp → Prop, (∀ σ' H', N σ' H' → ∃ m', m' < m ∧ W (i + 1) m' σ' H') ∧ ∀ x H', J.yld i H x H' → g x σ H' fun σ2 H2 => tb { D with nx := N, ct := N, bk := D.nx } σ2 H2)
def sS (fp : List Addr) (h : Heap) : List (Addr × Obj) := fp.filterMap fun b => (h.get? b).map fun o => (b, o)
theorem kW {fp : List Addr} {h : Heap} {b : Addr} {o : Obj} (hb : b ∈ fp) (e : h.get? b = some o) : (b, o) ∈ sS fp h := List.mem_filterMap.mpr ⟨b, hb, by rw [e]; rfl⟩
theorem Af {fp : List Addr} {h : Heap} {p : Addr × Obj} (hp : p ∈ sS fp h) : p.1 ∈ fp ∧ h.get? p.1 = some p.2 := by
 obtain ⟨b, hb, e⟩ := List.mem_filterMap.mp hp
 cases q : h.get? b with
 | none => rw [q] at e; cases e
 | some o =>
  rw [q] at e
  have e' : (b, o) = p := Option.some.inj e
  subst e'
  exact ⟨hb, q⟩
theorem Inv.pinned {pins : List (Addr × Obj)} {σ : St} {H : Hp} {s : Shared} {fp : List Addr} (I : Inv X pins σ H s) (hf : ∀ b ∈ fp, rB X pins H b) (ho : ∀ b ∈ fp, ∃ o, s.heap.get? b = some o ∧ ∀ v, o.data ≠ .cell v) : Inv X (pins ++ sS fp s.heap) σ H s :=
 I.pins_of fun p hp => (List.mem_append.mp hp).elim (fun z => I.pin p (List.mem_append_right _ z)) fun z => by
  obtain ⟨hb, e⟩ := Af z
  obtain ⟨f0, f1, f2, _⟩ := hf p.1 hb
  obtain ⟨o, e', d⟩ := ho p.1 hb
  rw [e] at e'; cases e'
  exact ⟨e, f0, f1, f2, d⟩
theorem Inv.unpinned {pins pl : List (Addr × Obj)} {σ : St} {H : Hp} {s : Shared} (I : Inv X (pins ++ pl) σ H s) : Inv X pins σ H s := I.pins_of fun p hp => I.pin p (List.mem_append_right _ (List.mem_append_left _ hp))
theorem G7 {iter : Expr} {body : List Stmt} {wi : TI} {g : TG} {tb : TS} {pos : Pos} (hp : PassesOwn (model X.prog X.w) X.A X.env X.xe) (hc : X.calm = true) (hi : PI X tg iter wi) (hg : PG X tg g) (hb : PSs X body tb)
  (hs : ∀ x, foldedSetIterable iter X.env x = pure x := by intro _; rfl) : PS X (.For tg iter body [] pos) (PP wi g tb) := by
 intro pins s σ H D I h
 refine wpAny_For (thn (hi pins s σ H _ I h) fun v s1 h1 => thn h1 fun itv s2 h2 => ?_) hs
 obtain ⟨it, fp, tn, J, H2, e, I2, T, st2, f2, W, ⟨m0, w0⟩, turn⟩ := h2
 subst e
 have stat : ∀ {H' : Hp}, (∀ b ∈ fp, H' b = none) → ∀ b ∈ fp, rB X pins H' b := fun hn b hb => ⟨hn b hb, (f2 b hb).2⟩
 refine codeAny_forLoop_any (fun n s' => ∃ i σ' H', Inv X pins σ' H' s' ∧ tn i s'.heap ∧ (∀ b ∈ fp, H' b = none) ∧ W i n σ' H') ?_ m0 ⟨0, σ, H2, I2, st2, fun b hb => (f2 b hb).1, w0⟩
 rintro n s3 ⟨i, σ3, H3, I3, st3, fr3, w3⟩
 rcases turn i n σ3 H3 w3 with ⟨stop, qn⟩ | ⟨go, N, hN, step⟩
 ·refine wpAny_passesOwn hp (thn (T.done X rfl rfl rfl hc i pins s3 σ3 H3 X.xe I3 (stat fr3) st3 stop) fun r s4 ⟨hr, I4⟩ => ?_)
  subst hr
  exact wpAny_execs_nil ⟨σ3, H3, I4, qn⟩
 ·refine wpAny_passesOwn hp (thn (T.item X rfl rfl rfl hc i pins s3 σ3 H3 X.xe I3 (stat fr3) st3 go) fun r s4 ⟨u, hr, h4⟩ => ?_)
  subst hr
  refine wpAny_passesOwn hp (thn h4 fun _ s5 ⟨x, H5, I5, r5, y5, st5, fr5⟩ => ?_)
  have I5' := I5.pinned (stat fr5) (T.obj _ _ st5)
  refine wpAny_passesOwn hp (thn (hg _ s5 σ3 H5 x u _ I5' r5 (step x H5 y5)) fun _ s6 ⟨σ6, H6, I6, q6⟩ => ?_)
  refine wpAny_passesOwn hp (thn (hb _ s6 σ6 H6 _ I6 q6) fun f s7 q7 => ?_)
  have again : ∀ {σ7 : St} {H7 : Hp}, Inv X (pins ++ sS fp s5.heap) σ7 H7 s7 → N σ7 H7 → ∃ m, m < n ∧ ∃ i σ' H', Inv X pins σ' H' s7 ∧ tn i s7.heap ∧ (∀ b ∈ fp, H' b = none) ∧ W i m σ' H' := fun {σ7 H7} I7 n7 => by
   obtain ⟨m', hm, w7⟩ := hN σ7 H7 n7
   refine ⟨m', hm, i + 1, σ7, H7, I7.unpinned, T.keep _ _ _ st5 fun b hb o e => (I7.pin (b, o) (List.mem_append_right _ (List.mem_append_right _ (kW hb e)))).1, fun b hb => ?_, w7⟩
   obtain ⟨o, e, d⟩ := T.obj _ _ st5 b hb
   exact (I7.pin (b, o) (List.mem_append_right _ (List.mem_append_right _ (kW hb e)))).2.1
  cases f with
  | next => obtain ⟨σ7, H7, I7, n7⟩ := q7; exact again I7 n7
  | cont => obtain ⟨σ7, H7, I7, n7⟩ := q7; exact again I7 n7
  | brk => obtain ⟨σ7, H7, I7, q7⟩ := q7; exact ⟨σ7, H7, I7.unpinned, q7⟩
  | ret v => obtain ⟨x7, σ7, H7, I7, r7, q7⟩ := q7; exact ⟨x7, σ7, H7, I7.unpinned, r7, q7⟩
end
theorem cu {K : PySem.W.Frag} {a : Addr} {xs : List V} {g : TG} {tb : TS} {D : Ends} {σ : St} {H : Hp} (Pv : Nat → St → Hp → Prop) (h0 : Pv 0 σ H) (hl : ∀ i σ H, i ≤ xs.length → Pv i σ H → SqL K H a xs)
  (hs : ∀ i x σ H, xs[i]? = some x → Pv i σ H → g x σ H fun σ2 H2 => tb { D with nx := Pv (i + 1), ct := Pv (i + 1), bk := D.nx } σ2 H2) (hd : ∀ σ H, Pv xs.length σ H → D.nx σ H) :
  ∃ W : Nat → Nat → St → Hp → Prop, (∃ m, W 0 m σ H) ∧ ∀ i m σ H, W i m σ H →
   ((Itl K a).stop i H ∧ D.nx σ H) ∨ ((Itl K a).go i H ∧ ∃ N : St → Hp → Prop, (∀ σ' H', N σ' H' → ∃ m', m' < m ∧ W (i + 1) m' σ' H') ∧ ∀ x H', (Itl K a).yld i H x H' → g x σ H' fun σ2 H2 => tb { D with nx := N, ct := N, bk := D.nx } σ2 H2) := by
 refine ⟨fun i m σ H => m = xs.length - i ∧ i ≤ xs.length ∧ Pv i σ H, ⟨xs.length, by simp, Nat.zero_le _, h0⟩, ?_⟩
 rintro i m σ H ⟨rfl, hi, p⟩
 have q := hl i σ H hi p
 by_cases hlt : i < xs.length
 ·refine .inr ⟨⟨xs, xs[i], q, by simp [hlt]⟩, Pv (i + 1), fun σ' H' p' => ⟨xs.length - (i + 1), by omega, rfl, hlt, p'⟩, fun x H' y => ?_⟩
  obtain ⟨e, y⟩ := y
  subst e
  exact hs i x σ _ (y xs q) p
 ·have e : i = xs.length := by omega
  subst e
  exact .inl ⟨⟨xs, q, Nat.le_refl _⟩, hd σ H p⟩
theorem mj {lo : Int} {n : Nat} {g : TG} {tb : TS} {D : Ends} {σ : St} {H : Hp} (Pv : Nat → St → Hp → Prop) (h0 : Pv 0 σ H)
  (hs : ∀ i σ H, i < n → Pv i σ H → g (.int (lo + i)) σ H fun σ2 H2 => tb { D with nx := Pv (i + 1), ct := Pv (i + 1), bk := D.nx } σ2 H2) (hd : ∀ σ H, Pv n σ H → D.nx σ H) :
  ∃ W : Nat → Nat → St → Hp → Prop, (∃ m, W 0 m σ H) ∧ ∀ i m σ H, W i m σ H →
   ((Itr lo n).stop i H ∧ D.nx σ H) ∨ ((Itr lo n).go i H ∧ ∃ N : St → Hp → Prop, (∀ σ' H', N σ' H' → ∃ m', m' < m ∧ W (i + 1) m' σ' H') ∧ ∀ x H', (Itr lo n).yld i H x H' → g x σ H' fun σ2 H2 => tb { D with nx := N, ct := N, bk := D.nx } σ2 H2) := by
 refine ⟨fun i m σ H => m = n - i ∧ i ≤ n ∧ Pv i σ H, ⟨n, by simp, Nat.zero_le _, h0⟩, ?_⟩
 rintro i m σ H ⟨rfl, hi, p⟩
 by_cases hlt : i < n
 ·refine .inr ⟨hlt, Pv (i + 1), fun σ' H' p' => ⟨n - (i + 1), by omega, rfl, hlt, p'⟩, fun x H' y => ?_⟩
  obtain ⟨e, y⟩ := y
  subst e y
  exact hs i σ _ hlt p
 ·have e : i = n := by omega
  subst e
  exact .inl ⟨Nat.le_refl _, hd σ H p⟩
abbrev R2 := V → V → Hp → VK → Prop
def OpR (X : Cx) (f : Value → Value → Sem Value) (r : R2) : Prop :=
 ∀ (pins : List (Addr × Obj)) (s : Shared) (σ : St) (H : Hp) (x y : V) (v u : Value) (Q : VK), Inv X pins σ H s → RelV x v → RelV y u → r x y H Q →
  wpAny (model X.prog X.w) X.A (f v u) (EP X pins σ Q) X.xe s
def UnR (X : Cx) (f : Value → Sem Value) (r : V → Hp → VK → Prop) : Prop :=
 ∀ (pins : List (Addr × Obj)) (s : Shared) (σ : St) (H : Hp) (x : V) (v : Value) (Q : VK), Inv X pins σ H s → RelV x v → r x H Q →
  wpAny (model X.prog X.w) X.A (f v) (EP X pins σ Q) X.xe s
def jE (X : Cx) (f : Value) (r : List V → Hp → VK → Prop) : Prop :=
 ∀ (pins : List (Addr × Obj)) (s : Shared) (σ : St) (H : Hp) (xs : List V) (us : List Value) (Q : VK), Inv X pins σ H s → Vals xs us → r xs H Q →
  wpAny (model X.prog X.w) X.A (call f us) (EP X pins σ Q) X.xe s
def tOp (r : R2) (ta tb : TE) : TE := fun σ H Q => ta σ H fun x H1 => tb σ H1 fun y H2 => r x y H2 Q
def tUn (r : V → Hp → VK → Prop) (ta : TE) : TE := fun σ H Q => ta σ H fun x H1 => r x H1 Q
def rI (C : Int → Int → Prop) (g : Int → Int → V) : R2 := fun x y H Q => ∃ i j, x = .int i ∧ y = .int j ∧ C i j ∧ Q (g i j) H
def rI0 (g : Int → Int → V) : R2 := fun x y H Q => ∃ i j, x = .int i ∧ y = .int j ∧ Q (g i j) H
def rU (g : Int → V) : V → Hp → VK → Prop := fun x H Q => ∃ i, x = .int i ∧ Q (g i) H
section
variable {X : Cx} {a b c : Expr} {ta tb tc : TE} {pos : Pos}
theorem Iw (ha : PE X a ta) (hb : PE X b tb) {pins : List (Addr × Obj)} {s : Shared} {σ : St} {H : Hp} {R : V → V → Hp → Prop} (I : Inv X pins σ H s)
  (h : ta σ H fun x H1 => tb σ H1 fun y H2 => R x y H2) {Q : Value → Shared → Prop} {f : Value → Value → Sem Value}
  (hf : ∀ v u s2 x y H2, Inv X pins σ H2 s2 → RelV x v → RelV y u → R x y H2 → wpAny (model X.prog X.w) X.A (f v u) Q X.xe s2) :
  wpAny (model X.prog X.w) X.A (eval a X.env) (fun v s₁ => wpAny (model X.prog X.w) X.A (eval b X.env) (fun u s₂ => wpAny (model X.prog X.w) X.A (f v u) Q X.xe s₂) X.xe s₁) X.xe s := by
 refine thn (ha pins s σ H _ I h) fun v s1 ⟨x, H1, I1, r1, q1⟩ => ?_
 refine thn (hb pins s1 σ H1 _ I1 q1) fun u s2 ⟨y, H2, I2, r2, q2⟩ => ?_
 exact hf v u s2 x y H2 I2 r1 r2 q2
theorem aU {op : Operator} {r : R2} (ho : OpR X (binaryOp op) r) (ha : PE X a ta) (hb : PE X b tb) : PE X (.BinOp a op b pos) (tOp r ta tb) := by
 intro pins s σ H Q I h
 exact wpAny_BinOp (Iw ha hb I h fun v u s2 x y H2 I2 rx ry q => ho pins s2 σ H2 x y v u Q I2 rx ry q)
theorem rW {op : UnaryOp} {r : V → Hp → VK → Prop} (ho : UnR X (unaryOp op) r) (ha : PE X a ta) : PE X (.UnaryOp op a pos) (tUn r ta) := by
 intro pins s σ H Q I h
 exact UnaryOp_ (thn (ha pins s σ H _ I h) fun v s1 ⟨x, H1, I1, r1, q1⟩ => ho pins s1 σ H1 x v Q I1 r1 q1)
theorem opI {f : Value → Value → Sem Value} {C : Int → Int → Prop} {g : Int → Int → Int}
  (rule : ∀ (i j : Int) (t u : Tok) (s : Shared) (Q : Value → Shared → Prop) (E : Value → Shared → Prop), C i j → Q (.int (g i j) s.toks) { s with toks := s.toks + 1 } → wpAny (model X.prog X.w) X.A (f (.int i t) (.int j u)) Q E s) :
  OpR X f (rI C fun i j => .int (g i j)) := by
 intro pins s σ H x y v u Q I rx ry h
 obtain ⟨i, j, rfl, rfl, hc, q⟩ := h
 obtain ⟨t, rfl⟩ := rx
 obtain ⟨t', rfl⟩ := ry
 exact rule i j t t' s _ _ hc ⟨.int (g i j), H, I.tok _, ⟨_, rfl⟩, q⟩
theorem Ht {f : Value → Value → Sem Value} {g : Int → Int → Int}
  (rule : ∀ (i j : Int) (t u : Tok) (s : Shared) (Q : Value → Shared → Prop) (E : Value → Shared → Prop), Q (.int (g i j) s.toks) { s with toks := s.toks + 1 } → wpAny (model X.prog X.w) X.A (f (.int i t) (.int j u)) Q E s) :
  OpR X f (rI0 fun i j => .int (g i j)) := by
 intro pins s σ H x y v u Q I rx ry h
 obtain ⟨i, j, rfl, rfl, q⟩ := h
 obtain ⟨t, rfl⟩ := rx
 obtain ⟨t', rfl⟩ := ry
 exact rule i j t t' s _ _ ⟨.int (g i j), H, I.tok _, ⟨_, rfl⟩, q⟩
theorem Hz {f : Value → Value → Sem Value} {g : Int → Int → Bool}
  (rule : ∀ (i j : Int) (t u : Tok) (s : Shared) (Q : Value → Shared → Prop) (E : Value → Shared → Prop), Q (.bool (g i j)) s → wpAny (model X.prog X.w) X.A (f (.int i t) (.int j u)) Q E s) :
  OpR X f (rI0 fun i j => .bl (g i j)) := by
 intro pins s σ H x y v u Q I rx ry h
 obtain ⟨i, j, rfl, rfl, q⟩ := h
 obtain ⟨t, rfl⟩ := rx
 obtain ⟨t', rfl⟩ := ry
 exact rule i j t t' s _ _ ⟨.bl (g i j), H, I, rfl, q⟩
def TV (i j : Int) : Prop := 0 < j ∧ j < 1073741824
def S7 (i j : Int) : Prop := 0 ≤ j ∧ j ≤ 1000000 ∧ i.natAbs < 2 ^ 64
def GR (i j : Int) : Prop := (-(2 ^ 64) < i ∧ i < 2 ^ 64) ∨ (-(2 ^ 64) < j ∧ j < 2 ^ 64)
theorem GR.ok {i j : Int} (h : GR i j) : IntMulOk i j := by
 rcases h with ⟨h1, h2⟩ | ⟨h1, h2⟩
 ·exact .of_left (intBits_le_64 h1 h2)
 ·exact .of_right (intBits_le_64 h1 h2)
theorem ye (k : Nat) : (0 : Int) ≤ 2 ^ k := by
 rw [two_pow_cast]
 exact Int.natCast_nonneg _
theorem cY : OpR X (binaryOp .Add) (rI0 fun i j => .int (i + j)) := Ht fun _ _ _ _ _ _ _ q => add_int q
theorem yw : OpR X (binaryOp .Sub) (rI0 fun i j => .int (i - j)) := Ht fun _ _ _ _ _ _ _ q => sub_int q
theorem nC : OpR X (binaryOp .Mult) (rI GR fun i j => .int (i * j)) := opI fun _ _ _ _ _ _ _ hc q => mul_int q hc.ok
theorem qJ : OpR X (binaryOp .FloorDiv) (rI TV fun i j => .int (i / j)) := opI fun i j _ _ _ _ _ hc q => by
 have h1 : (0 : Int) < j := hc.1
 have h2 : j < 1073741824 := hc.2
 exact floordiv_int (by omega) (by rw [Int.fdiv_eq_ediv_of_nonneg i (by omega)]; exact q) (.inl (PyProof.noPylong_small (by omega)))
theorem jg : OpR X (binaryOp .Mod) (rI (fun _ j => 0 < j) fun i j => .int (i % j)) := opI fun i j _ _ _ _ _ hc q => by
 have h1 : (0 : Int) < j := hc
 exact mod_int' (by omega) (by rw [Int.fmod_eq_emod_of_nonneg i (by omega)]; exact q)
theorem Hf : OpR X (binaryOp .LShift) (rI S7 fun i j => .int (i * 2 ^ j.toNat)) := opI fun _ _ _ _ _ _ _ hc q => lshift_int_small hc.1 hc.2.1 hc.2.2 q
theorem Cm : OpR X (binaryOp .RShift) (rI (fun _ j => 0 ≤ j) fun i j => .int (i / 2 ^ j.toNat)) := opI fun i j _ _ _ _ _ hc q =>
 rshift_int hc (by rw [Int.fdiv_eq_ediv_of_nonneg i (ye _)]; exact q)
theorem Cp : OpR X (binaryOp .BitAnd) (rI0 fun i j => .int (Builtin.bitAnd i j)) := Ht fun _ _ _ _ _ _ _ q => and_int q
theorem unI {f : Value → Sem Value} {g : Int → Int}
  (rule : ∀ (i : Int) (t : Tok) (s : Shared) (Q : Value → Shared → Prop) (E : Value → Shared → Prop), Q (.int (g i) s.toks) { s with toks := s.toks + 1 } → wpAny (model X.prog X.w) X.A (f (.int i t)) Q E s) :
  UnR X f (rU fun i => .int (g i)) := by
 intro pins s σ H x v Q I rx h
 obtain ⟨i, rfl, q⟩ := h
 obtain ⟨t, rfl⟩ := rx
 exact rule i t s _ _ ⟨.int (g i), H, I.tok _, ⟨_, rfl⟩, q⟩
theorem ni : UnR X (unaryOp .USub) (rU fun i => .int (-i)) := unI fun _ _ _ _ _ q => neg_int q
end
def Kl : V → V → Bool
 | .non, .non => true | .non, .int _ => true | .int _, .non => true | .non, .bl _ => true | .bl _, .non => true | .non, .str _ => true | .str _, .non => true
 | .int _, .int _ => true | .bl _, .bl _ => true | .str _, .str _ => true | .byt _, .byt _ => true
 | .int _, .str _ => true | .str _, .int _ => true | .bl _, .str _ => true | .str _, .bl _ => true
 | _, _ => false
def rEq : R2 := fun x y H Q => Kl x y = true ∧ Q (.bl (decide (x = y))) H
def rNe : R2 := fun x y H Q => Kl x y = true ∧ Q (.bl (!decide (x = y))) H
theorem yL {i j : Int} : decide (V.int i = V.int j) = (i == j) := by
 rw [Bool.eq_iff_iff]
 simp
theorem Bo {i j : Bool} : decide (V.bl i = V.bl j) = (i == j) := by
 rw [Bool.eq_iff_iff]
 simp
theorem zB {i j : Str} : decide (V.str i = V.str j) = (i == j) := by
 rw [Bool.eq_iff_iff]
 simp
theorem yH {i j : Array UInt8} : decide (V.byt i = V.byt j) = (i.toList == j.toList) := by
 rw [Bool.eq_iff_iff]
 cases i
 cases j
 simp
section
variable {X : Cx} {a b c : Expr} {ta tb tc : TE} {pos : Pos}
theorem bw {pins : List (Addr × Obj)} {σ : St} {H : Hp} {s : Shared} {Q : VK} {k k' : Bool} (I : Inv X pins σ H s) (q : Q (.bl k) H) (e : k = k') : EP X pins σ Q (.bool k') s := by
 subst e
 exact ⟨.bl k, H, I, rfl, q⟩
theorem dG : OpR X (compareOp .Eq) rEq := by
 intro pins s σ H x y v u Q I rx ry h
 obtain ⟨hs, q⟩ := h
 cases x with
 | non =>
  cases rx
  cases y with
  | non => cases ry; exact PySem.EqNone.eq_none_none (bw I q (by simp))
  | bl j => cases ry; exact PySem.EqNone.eq_none_bool (bw I q (by simp))
  | int j => obtain ⟨t', rfl⟩ := ry; exact PySem.EqNone.eq_none_int (bw I q (by simp))
  | str j => obtain ⟨t', rfl⟩ := ry; exact PySem.EqNone.eq_none_str (bw I q (by simp))
  | _ => exact absurd (show false = true from hs) Bool.false_ne_true
 | bl i =>
  cases rx
  cases y with
  | non => cases ry; exact PySem.EqNone.eq_bool_none (bw I q (by simp))
  | bl j => cases ry; exact eq_bool (bw I q Bo)
  | str j => obtain ⟨t', rfl⟩ := ry; exact PySem.EqMixed.eq_bool_str (bw I q (by simp))
  | _ => exact absurd (show false = true from hs) Bool.false_ne_true
 | int i =>
  obtain ⟨t, rfl⟩ := rx
  cases y with
  | non => cases ry; exact PySem.EqNone.eq_int_none (bw I q (by simp))
  | int j => obtain ⟨t', rfl⟩ := ry; exact eq_int (bw I q yL)
  | str j => obtain ⟨t', rfl⟩ := ry; exact PySem.EqMixed.eq_int_str (bw I q (by simp))
  | _ => exact absurd (show false = true from hs) Bool.false_ne_true
 | str i =>
  obtain ⟨t, rfl⟩ := rx
  cases y with
  | non => cases ry; exact PySem.EqNone.eq_str_none (bw I q (by simp))
  | bl j => cases ry; exact PySem.EqMixed.eq_str_bool (bw I q (by simp))
  | int j => obtain ⟨t', rfl⟩ := ry; exact PySem.EqMixed.eq_str_int (bw I q (by simp))
  | str j => obtain ⟨t', rfl⟩ := ry; exact eq_str (bw I q zB)
  | _ => exact absurd (show false = true from hs) Bool.false_ne_true
 | byt i =>
  obtain ⟨t, rfl⟩ := rx
  cases y with
  | byt j => obtain ⟨t', rfl⟩ := ry; exact PySem.W.eq_bytes (bw I q yH)
  | _ => exact absurd (show false = true from hs) Bool.false_ne_true
 | _ => cases y <;> exact absurd (show false = true from hs) Bool.false_ne_true
theorem t7 : OpR X (compareOp .NotEq) rNe := by
 intro pins s σ H x y v u Q I rx ry h
 obtain ⟨hs, q⟩ := h
 cases x with
 | non =>
  cases rx
  cases y with
  | non => cases ry; exact PySem.EqNone.ne_none_none (bw I q (by simp))
  | bl j => cases ry; exact PySem.EqNone.ne_none_bool (bw I q (by simp))
  | int j => obtain ⟨t', rfl⟩ := ry; exact PySem.EqNone.ne_none_int (bw I q (by simp))
  | str j => obtain ⟨t', rfl⟩ := ry; exact PySem.EqNone.ne_none_str (bw I q (by simp))
  | _ => exact absurd (show false = true from hs) Bool.false_ne_true
 | bl i =>
  cases rx
  cases y with
  | non => cases ry; exact PySem.EqNone.ne_bool_none (bw I q (by simp))
  | bl j => cases ry; exact ne_bool (bw I q (congrArg not Bo))
  | str j => obtain ⟨t', rfl⟩ := ry; exact PySem.EqMixed.ne_bool_str (bw I q (by simp))
  | _ => exact absurd (show false = true from hs) Bool.false_ne_true
 | int i =>
  obtain ⟨t, rfl⟩ := rx
  cases y with
  | non => cases ry; exact PySem.EqNone.ne_int_none (bw I q (by simp))
  | int j => obtain ⟨t', rfl⟩ := ry; exact ne_int (bw I q (congrArg not yL))
  | str j => obtain ⟨t', rfl⟩ := ry; exact PySem.EqMixed.ne_int_str (bw I q (by simp))
  | _ => exact absurd (show false = true from hs) Bool.false_ne_true
 | str i =>
  obtain ⟨t, rfl⟩ := rx
  cases y with
  | non => cases ry; exact PySem.EqNone.ne_str_none (bw I q (by simp))
  | bl j => cases ry; exact PySem.EqMixed.ne_str_bool (bw I q (by simp))
  | int j => obtain ⟨t', rfl⟩ := ry; exact PySem.EqMixed.ne_str_int (bw I q (by simp))
  | str j => obtain ⟨t', rfl⟩ := ry; exact ne_str (bw I q (congrArg not zB))
  | _ => exact absurd (show false = true from hs) Bool.false_ne_true
 | byt i =>
  obtain ⟨t, rfl⟩ := rx
  cases y with
  | byt j => obtain ⟨t', rfl⟩ := ry; exact PySem.W.ne_bytes (bw I q (congrArg not yH))
  | _ => exact absurd (show false = true from hs) Bool.false_ne_true
 | _ => cases y <;> exact absurd (show false = true from hs) Bool.false_ne_true
theorem qX : OpR X (compareOp .Lt) (rI0 fun i j => .bl (decide (i < j))) := Hz fun _ _ _ _ _ _ _ q => lt_int q
theorem yZ : OpR X (compareOp .Gt) (rI0 fun i j => .bl (decide (j < i))) := Hz fun _ _ _ _ _ _ _ q => gt_int q
theorem J1 : OpR X (compareOp .GtE) (rI0 fun i j => .bl (decide (j ≤ i))) := Hz fun _ _ _ _ _ _ _ q => ge_int q
theorem zY : OpR X (compareOp .In) (fun x y H Q => ∃ i j, x = .str i ∧ y = .str j ∧ Q (.bl (!(Builtin.Str.occurrences j i 0 j.length 1).isEmpty)) H) := by
 intro pins s σ H x y v u Q I rx ry h
 obtain ⟨i, j, rfl, rfl, q⟩ := h
 obtain ⟨t, rfl⟩ := rx
 obtain ⟨t', rfl⟩ := ry
 exact in_str (bw I q rfl)
theorem HB : OpR X (compareOp .Is) (fun x y H Q => y = .non ∧ Q (.bl (decide (x = .non))) H) := by
 intro pins s σ H x y v u Q I rx ry h
 obtain ⟨rfl, q⟩ := h
 cases ry
 refine is_none_gen (bw I q ?_)
 cases x <;> first
  | (cases rx; rfl)
  | (obtain ⟨t, rfl⟩ := rx; rfl)
theorem zf : OpR X (compareOp .IsNot) (fun x y H Q => y = .non ∧ Q (.bl (!decide (x = .non))) H) := by
 intro pins s σ H x y v u Q I rx ry h
 obtain ⟨rfl, q⟩ := h
 cases ry
 refine isnot_none_gen (bw I q ?_)
 cases x <;> first
  | (cases rx; rfl)
  | (obtain ⟨t, rfl⟩ := rx; rfl)
theorem aW (b : Expr) {op : CmpOp} (h : op ≠ .In := by decide) (h2 : op ≠ .NotIn := by decide) : behindInMarks op b = false := by
 have e1 : (op == CmpOp.In) = false := by cases op <;> first | rfl | exact absurd rfl h
 have e2 : (op == CmpOp.NotIn) = false := by cases op <;> first | rfl | exact absurd rfl h2
 cases b <;> simp [behindInMarks, e1, e2]
theorem iI {op : CmpOp} {r : R2} (ho : OpR X (compareOp op) r) (ha : PE X a ta) (hb : PE X b tb) (hm : behindInMarks op b = false) : PE X (.Compare a [op] [b] pos) (tOp r ta tb) := by
 intro pins s σ H Q I h
 exact wpAny_Compare1 (Iw ha hb I h fun v u s2 x y H2 I2 rx ry q => ho pins s2 σ H2 x y v u Q I2 rx ry q) hm
def Qh (t : TE) : TT := fun σ H Q => t σ H fun x H' => ∃ k, x = .bl k ∧ Q k H'
theorem aM {op : CmpOp} {r : R2} (ho : OpR X (compareOp op) r) (ha : PE X a ta) (hb : PE X b tb) (hm : behindInMarks op b = false) : PT X (.Compare a [op] [b] pos) (Qh (tOp r ta tb)) := by
 intro pins s σ H Q I h
 refine wpAny_isTrue_Compare1 (thn (ha pins s σ H _ I h) fun v s1 ⟨x, H1, I1, r1, q1⟩ => thn (hb pins s1 σ H1 _ I1 q1) fun u s2 ⟨y, H2, I2, r2, q2⟩ =>
  thn (ho pins s2 σ H2 x y v u _ I2 r1 r2 q2) fun c s3 ⟨z, H3, I3, r3, k, e, q3⟩ => ?_) hm
 subst e
 cases r3
 exact wpAny_truthy_bool ⟨H3, I3, q3⟩
theorem vf : (sizeLine : Nat) < 2 ^ 63 := by rw [sizeLine_eq]; decide
theorem bB : OpR X (binaryOp .Add) (fun x y H Q => ∃ i j, x = .str i ∧ y = .str j ∧ i.length + j.length ≤ sizeLine ∧ Q (.str (i ++ j)) H) := by
 intro pins s σ H x y v u Q I rx ry h
 obtain ⟨i, j, rfl, rfl, hz, q⟩ := h
 obtain ⟨t, rfl⟩ := rx
 obtain ⟨t', rfl⟩ := ry
 exact add_str (fun t' tk => ⟨.str (i ++ j), H, I.tok _, ⟨_, rfl⟩, q⟩) hz
theorem vals1 {x : V} {us : List Value} (r : Vals [x] us) : ∃ u, us = [u] ∧ RelV x u := by
 cases r with
 | cons r1 r2 => cases r2; exact ⟨_, rfl, r1⟩
theorem vals2 {x y : V} {us : List Value} (r : Vals [x, y] us) : ∃ u w', us = [u, w'] ∧ RelV x u ∧ RelV y w' := by
 cases r with
 | cons r1 r2 =>
  cases r2 with
  | cons r3 r4 => cases r4; exact ⟨_, _, rfl, r1, r3⟩
theorem zQ (hc : X.calm = true) : jE X (.builtin "min") (fun xs H Q => ∃ i j, xs = [.int i, .int j] ∧ Q (.int (if j < i then j else i)) H) := by
 intro pins s σ H xs us Q I r h
 obtain ⟨i, j, rfl, q⟩ := h
 obtain ⟨u, w', rfl, ⟨t, rfl⟩, ⟨t', rfl⟩⟩ := vals2 r
 refine min_two_ints (I.ok.hd hc) fun h' tk k => ⟨_, H, I.kept k, ?_, q⟩
 by_cases hj : j < i
 ·rw [if_pos hj, if_pos hj]; exact ⟨_, rfl⟩
 ·rw [if_neg hj, if_neg hj]; exact ⟨_, rfl⟩
end
structure yg (h : Heap) (x dx C : Addr) (mA : Str → Option Value) : Prop where
 obj : h.get? x = some (PySem.W.instObj C dx)
 ns : h.Ns1 dx mA
 ne : dx ≠ x
theorem oV {h : Heap} {dx : Addr} {mA : Str → Option Value} (n : h.Ns1 dx mA) : ∃ od, h.get? dx = some od ∧ ∀ name, PySem.W.lookIn name od = some (mA name) := by
 obtain ⟨o, es, ep, ho, hd, hk, _, hm⟩ := n
 refine ⟨o, ho, fun name => ?_⟩
 have e := hm name
 unfold nsFind findBy at e
 rw [← Array.find?_toList] at e
 unfold PySem.W.lookIn
 rw [hd]
 dsimp only
 split
 ·rename_i y q
  rw [q] at e
  exact congrArg some e
 ·rename_i q
  rw [q] at e
  have a : es.toList.any (·.refKey) = false := by
   rw [List.any_eq_false]
   intro y hy
   obtain ⟨z, t, hkey⟩ := hk y (Array.mem_toList_iff.mp hy)
   simp [DictEntry.refKey, hkey]
  have a' : ¬ es.toList.any (·.refKey) = true := by rw [a]; exact Bool.false_ne_true
  rw [if_neg a']
  exact congrArg some e
theorem yg.look {h : Heap} {x dx C : Addr} {mA : Str → Option Value} (I : yg h x dx C mA) : ∃ od, PySem.W.InstAt h x (PySem.W.instObj C dx) C (some od) ∧ ∀ name, PySem.W.lookIn name od = some (mA name) :=
 let ⟨od, ho, hl⟩ := oV I.ns
 ⟨od, ⟨I.obj, rfl, rfl, ho⟩, hl⟩
section
variable {prog : Program} {w : World} {A : Around} {E : Value → Shared → Prop} {s : Shared} {K : PySem.W.Frag} {x dx C f : Addr} {mA : Str → Option Value} {name : Str} {v : Value}
theorem Fv {expr : Bool} {Q : Value → Shared → Prop} (X : K.In s.heap) (I : yg s.heap x dx C mA) (hg : PySem.W.plainGet K C name = true) (hh : PySem.W.hasDictIn K C = true)
  (ha : PySem.W.findIn K (.ref C) name = some none) (hv : mA name = some v) (hv' : PySem.W.handedIn v = true) (h : Q v { s with toks := s.toks + 1 }) :
  wpAny (model prog w) A (getAttr (.ref x) name expr) Q E s := by
 obtain ⟨od, J, hl⟩ := I.look
 exact PySem.W.get_value X J (PySem.W.plainGet_of hg).1 (PySem.W.findObj_own hh ha rfl (by rw [hl, hv])) hv' h
theorem Cj {pl : Sem Bool} {Q : Value × List Value → Shared → Prop} (X : K.In s.heap) (I : yg s.heap x dx C mA) (hg : PySem.W.plainGet K C name = true)
  (hf : PySem.W.findIn K (.ref C) name = some (some (.ref f))) (ht : PySem.W.isFn K (.ref f) = true) (hv : mA name = none) (h : Q (.ref f, [.ref x]) s) :
  wpAny (model prog w) A (getMethod (.ref x) name pl) Q E s := by
 obtain ⟨od, J, hl⟩ := I.look
 exact PySem.W.method_fn X J (PySem.W.plainGet_of hg).1 (PySem.W.plainGet_of hg).2 hf (beq_iff_eq.mp ht) (by show (PySem.W.lookIn name od).map (·.isSome) = some false; rw [hl, hv]; rfl) h
theorem Fj {ns : List Str} {Q : Unit → Shared → Prop} (X : K.In s.heap) (I : yg s.heap x dx C mA)
  (hs : PySem.W.findIn K (.ref C) "__setattr__" = some (some (.builtin "object.__setattr__"))) (hp : PySem.W.plainOver K C = true) (ht : PySem.W.takerIn K C name = some none) (hh : PySem.W.hasDictIn K C = true)
  (hw : PySem.Within mA ns) (hsz : ns.length ≤ sizeLine)
  (h : ∀ h', yg h' x dx C (fun y => if y = name then some v else mA y) → Heap.SameBut dx s.heap h' → Q () { s with heap := h', toks := s.toks + 2 }) :
  wpAny (model prog w) A (setAttr (.ref x) name v) Q E s := by
 obtain ⟨od, J, hl⟩ := I.look
 refine PySem.W.set_plain X J hs (PySem.W.osa_open (s := { s with toks := s.toks + 1 }) (r := none) X J hp ht fun b => ?_)
 obtain ⟨cd, hc, hd'⟩ := PySem.W.any_some hh
 have hx : s.heap.get? x = some ⟨.ref C, some dx, .plain, #[]⟩ := I.obj
 refine wpAny_bind (wpAny_pure (wpAny_bind (wpAny_bind (wpAny_loadPart hx (wpAny_bind (PySem.W.Looks.here (s := { s with toks := s.toks + 1 }) (PySem.W.looks_clsIn X hc) ?_))))))
 rw [hd']
 refine wpAny_pure (a := some dx) (wpAny_bind (wpAny_pure (wpAny_bind ?_)))
 refine wpAny_nsSet1 (s := { s with toks := s.toks + 1 }) I.ns fun h' hn2 hs2 => ?_
 obtain ⟨oD, esD, epD, hoD, hdD, hcD⟩ := hn2.count (PySem.Within.cons name v hw)
 refine wpAny_bind (wpAny_lookBehind hoD (by rw [hdD]; exact pastItsLine_dict (Nat.le_trans hcD (by rw [List.length_cons]; omega))) ?_)
 exact wpAny_pure (h _ ⟨(hs2.2 _ (Ne.symm I.ne)).trans I.obj, hn2, I.ne⟩ hs2)
theorem Df {R : Result → Shared → Prop} {vs : List Value} {kw : List (Str × Value)} (X : K.In s.heap) (hm : PySem.W.makesIn K C = true)
  (hi : PySem.W.findIn K (.ref C) "__init__" = some (some (.ref f))) (hf : PySem.W.typeIn K (.ref f) = some (.type "function"))
  (h : codeAny (model prog w) (A.under (.builtin "type.__call__" ⟨.ref C :: vs, kw⟩)) (.call (.ref f) ⟨.ref (s.heap.objs.size + 1) :: vs, kw⟩) (PySem.W.InitBack (s.heap.objs.size + 1) R)
   { s with heap := (s.heap.push PySem.W.emptyDict).push (PySem.W.instObj C s.heap.objs.size) }) :
  codeAny (model prog w) A (.call (.ref C) ⟨vs, kw⟩) R s := by
 obtain ⟨hh, g, d, t, os⟩ := s
 exact PySem.W.make_core (PySem.W.makes_of X hm) (PySem.W.looks_findIn X hi) (fun self => PySem.W.bind_fn X self hf) (.inl rfl) h
end
def ju (f : Str) (v : V) : List (Str × V) → List (Str × V)
 | [] => [(f, v)]
 | (g, x) :: r => if g = f then (g, v) :: r else (g, x) :: ju f v r
theorem je (f g : Str) (v : V) : ∀ fs : List (Str × V), (ju f v fs).lookup g = if g = f then some v else fs.lookup g
 | [] => by
  show List.lookup g [(f, v)] = _
  by_cases h : g = f
  ·have hb : (g == f) = true := beq_iff_eq.mpr h
   simp only [List.lookup, hb, if_pos h]
  ·have hb : (g == f) = false := beq_eq_false_iff_ne.mpr h
   simp only [List.lookup, hb, if_neg h]
 | (k, x) :: r => by
  have ih := je f g v r
  rw [show ju f v ((k, x) :: r) = (if k = f then (k, v) :: r else (k, x) :: ju f v r) from rfl]
  by_cases hk : k = f
  ·rw [if_pos hk]
   by_cases h : g = k
   ·have hb : (g == k) = true := beq_iff_eq.mpr h
    simp only [List.lookup, hb, if_pos (h.trans hk)]
   ·have hb : (g == k) = false := beq_eq_false_iff_ne.mpr h
    simp only [List.lookup, hb, if_neg (fun e : g = f => h (e.trans hk.symm))]
  ·rw [if_neg hk]
   by_cases h : g = k
   ·have hb : (g == k) = true := beq_iff_eq.mpr h
    simp only [List.lookup, hb, if_neg (fun e : g = f => hk (h.symm.trans e))]
   ·have hb : (g == k) = false := beq_eq_false_iff_ne.mpr h
    simp only [List.lookup, hb]
    exact ih
theorem o6 (f : Str) (v : V) : ∀ fs : List (Str × V), f ∈ (ju f v fs).map (·.1) ∧ ∀ g, g ∈ fs.map (·.1) → g ∈ (ju f v fs).map (·.1)
 | [] => ⟨by simp [ju], fun g h => by simp at h⟩
 | (k, x) :: r => by
  obtain ⟨i1, i2⟩ := o6 f v r
  rw [show ju f v ((k, x) :: r) = (if k = f then (k, v) :: r else (k, x) :: ju f v r) from rfl]
  by_cases hk : k = f
  ·rw [if_pos hk]
   subst hk
   exact ⟨by simp, fun g h => by simpa using h⟩
  ·rw [if_neg hk]
   refine ⟨?_, fun g h => ?_⟩
   ·rw [List.map_cons]
    exact List.mem_cons_of_mem _ i1
   ·rw [List.map_cons] at h ⊢
    rcases List.mem_cons.mp h with e | e
    ·exact List.mem_cons.mpr (.inl e)
    ·exact List.mem_cons_of_mem _ (i2 g e)
theorem lV (f : Str) (v : V) : ∀ fs : List (Str × V), (ju f v fs).length ≤ fs.length + 1
 | [] => by simp [ju]
 | (k, x) :: r => by
  have ih := lV f v r
  rw [show ju f v ((k, x) :: r) = (if k = f then (k, v) :: r else (k, x) :: ju f v r) from rfl]
  by_cases hk : k = f
  ·rw [if_pos hk, List.length_cons, List.length_cons]; omega
  ·rw [if_neg hk, List.length_cons, List.length_cons]; omega
theorem jr.some_of {v : V} {o : Option Value} (r : jr (some v) o) : ∃ u, o = some u ∧ RelV v u := by
 cases o with
 | none => exact (show False from r).elim
 | some u => exact ⟨u, rfl, r⟩
theorem jr.none_of {o : Option Value} (r : jr none o) : o = none := by
 cases o with
 | none => rfl
 | some u => exact (show False from r).elim
theorem uf {v : V} {u : Value} (r : RelV v u) : PySem.W.handedIn u = true := by
 cases v with
 | non => cases (show u = Value.none from r); rfl
 | bl b => cases (show u = Value.bool b from r); rfl
 | int i => obtain ⟨t, e⟩ := (show ∃ t, u = Value.int i t from r); cases e; rfl
 | str x => obtain ⟨t, e⟩ := (show ∃ t, u = Value.str x t from r); cases e; rfl
 | byt b => obtain ⟨t, e⟩ := (show ∃ t, u = Value.bytes b t from r); cases e; rfl
 | flt b => obtain ⟨t, e⟩ := (show ∃ t, u = Value.float b t from r); cases e; rfl
 | ref a => cases (show u = Value.ref a from r); rfl
 | ty n => cases (show u = Value.type n from r); rfl
section
variable {P : Program} {w : World} {H H' : Hp} {h h' : Heap} {a C dx : Addr} {fs fs' : List (Str × V)}
theorem qm (hok : HOk P w H h) (e : H a = some (.ins C dx fs)) : ∃ mA, yg h a dx C mA ∧ (∀ f, jr (fs.lookup f) (mA f)) ∧ PySem.Within mA (fs.map (·.1)) ∧ fs.length ≤ 1000 ∧ H dx = some (.own a) := by
 obtain ⟨d, z, ne, ob, mA, n, r, q⟩ := (show bI P w H h a (.ins C dx fs) from hok a _ e)
 exact ⟨mA, ⟨ob, n, ne⟩, r, q, z, d⟩
end
structure Cls (K : PySem.W.Frag) (C : Addr) : Prop where
 pg : PySem.W.plainGet K C Str.empty = true
 hd : PySem.W.hasDictIn K C = true
 po : PySem.W.plainOver K C = true
 sa : PySem.W.findIn K (.ref C) "__setattr__" = some (some (.builtin "object.__setattr__"))
theorem Cls.get {K : PySem.W.Frag} {C : Addr} (c : Cls K C) (f : Str) : PySem.W.plainGet K C f = true := c.pg
def cz (K : PySem.W.Frag) (C : Addr) (f : Str) : Prop := PySem.W.findIn K (.ref C) f = some none
theorem cz.taker {K : PySem.W.Frag} {C : Addr} {f : Str} (n : cz K C f) : PySem.W.takerIn K C f = some none := by
 unfold PySem.W.takerIn
 rw [show PySem.W.findIn K (.ref C) f = some none from n]
 rfl
structure Meth (K : PySem.W.Frag) (C : Addr) (m : Str) (f : Addr) : Prop where
 at_ : PySem.W.findIn K (.ref C) m = some (some (.ref f))
 fn : PySem.W.isFn K (.ref f) = true
 kp : PySem.W.keepIn K (.ref f) = true
section
variable {X : Cx} {pins : List (Addr × Obj)} {σ : St} {H : Hp} {s : Shared} {a C dx : Addr} {fs : List (Str × V)} {f : Str} {v : V} {A : Around} {E : Value → Shared → Prop}
theorem yd {b : Bool} {Q : Value → Shared → Prop} (I : Inv X pins σ H s) (e : H a = some (.ins C dx fs)) (c : Cls X.K C) (n : cz X.K C f) (l : fs.lookup f = some v)
  (h : ∀ u s', Inv X pins σ H s' → RelV v u → Q u s') : wpAny (model X.prog X.w) A (getAttr (.ref a) f b) Q E s := by
 obtain ⟨mA, O, r, _, _, _⟩ := qm I.hok e
 obtain ⟨u, hu, ru⟩ := jr.some_of (v := v) (o := mA f) (by rw [← l]; exact r f)
 exact Fv I.kIn O (c.get f) c.hd n hu (uf ru) (h u _ (I.tok _) ru)
theorem kY {m : Str} {g : Addr} {pl : Sem Bool} {Q : Value × List Value → Shared → Prop} (I : Inv X pins σ H s) (e : H a = some (.ins C dx fs)) (c : Cls X.K C) (k : Meth X.K C m g) (l : fs.lookup m = none)
  (h : Q (.ref g, [.ref a]) s) : wpAny (model X.prog X.w) A (getMethod (.ref a) m pl) Q E s := by
 obtain ⟨mA, O, r, _, _, _⟩ := qm I.hok e
 have hn : mA m = none := jr.none_of (by rw [← l]; exact r m)
 exact Cj I.kIn O (c.get m) k.at_ k.fn hn h
theorem yc {y : V} {u : Value} {Q : Unit → Shared → Prop} (I : Inv X pins σ H s) (e : H a = some (.ins C dx fs)) (c : Cls X.K C) (n : cz X.K C f) (hl : fs.length < 1000) (ry : RelV y u)
  (h : ∀ s', Inv X pins σ (upd H a (.ins C dx (ju f y fs))) s' → Q () s') : wpAny (model X.prog X.w) A (setAttr (.ref a) f u) Q E s := by
 obtain ⟨mA, O, r, wi, _, ho⟩ := qm I.hok e
 have hz : (fs.map (·.1)).length ≤ sizeLine := by rw [List.length_map, sizeLine_eq]; omega
 refine Fj I.kIn O c.sa c.po n.taker c.hd wi hz fun h' O' sb => h _ ?_
 have hd : ∃ o, h'.get? dx = some o := let ⟨o, _, _, e', _⟩ := O'.ns; ⟨o, e'⟩
 refine I.write (x := a) (e := dx) (by rw [e]; exact True.intro) (.inr ho) (fun b q hb z => (sb.2 b hb).trans z) hd ?_
 refine ⟨by rw [aG O.ne]; exact ho, ?_, O.ne, O'.obj, _, O'.ns, fun g => ?_, fun g hg => ?_⟩
 ·have := lV f y fs; omega
 ·show jr ((ju f y fs).lookup g) (if g = f then some u else mA g)
  rw [je]
  by_cases q : g = f
  ·rw [if_pos q, if_pos q]; exact ry
  ·rw [if_neg q, if_neg q]; exact r g
 ·by_cases q : g = f
  ·rw [q]; exact (o6 f y fs).1
  ·refine (o6 f y fs).2 g (wi g fun z => hg ?_)
   show (if g = f then some u else mA g) = none
   rw [if_neg q]; exact z
theorem Inv.made (I : Inv X pins σ H s) : Inv X pins σ (upd (upd H s.heap.objs.size (.own (s.heap.objs.size + 1))) (s.heap.objs.size + 1) (.ins C s.heap.objs.size []))
  { s with heap := (s.heap.push PySem.W.emptyDict).push (PySem.W.instObj C s.heap.objs.size) } := by
 have e1 : (s.heap.push PySem.W.emptyDict).get? s.heap.objs.size = some PySem.W.emptyDict := Heap.get?_push_size s.heap rfl
 have e2 : ((s.heap.push PySem.W.emptyDict).push (PySem.W.instObj C s.heap.objs.size)).get? (s.heap.objs.size + 1) = some (PySem.W.instObj C s.heap.objs.size) := by
  have := Heap.get?_push_size (s.heap.push PySem.W.emptyDict) (o := PySem.W.instObj C s.heap.objs.size) rfl
  rwa [Heap.size_push] at this
 have e3 : (s.heap.push PySem.W.emptyDict).Ns s.heap.objs.size (fun _ => none) := ⟨PySem.W.emptyDict, #[], _, e1, rfl, (fun e he => absurd he (by simp)), fun _ => rfl⟩
 have I1 := I.laid (a := s.heap.objs.size) (o := .own (s.heap.objs.size + 1)) (h' := s.heap.push PySem.W.emptyDict) (t' := s.toks) (fun b u q => Heap.get?_push_of_some _ q) (Nat.le_refl _) ⟨_, e1⟩
 refine I1.laid (a := s.heap.objs.size + 1) (o := .ins C s.heap.objs.size []) (t' := s.toks) (fun b u q => Heap.get?_push_of_some _ q) (Nat.le_of_eq (Heap.size_push _ _)) ?_
 have ne : s.heap.objs.size ≠ s.heap.objs.size + 1 := Nat.ne_of_lt (Nat.lt_succ_self _)
 refine ⟨by rw [aG ne, ao], Nat.zero_le _, ne, e2, fun _ => none, (Heap.Ns1.of_empty e3).at fun o q => Heap.get?_push_of_some _ q, fun _ => True.intro, fun y hy => absurd rfl hy⟩
theorem zE {prog : Program} {w : World} {env : Env} {e : Expr} {f : Str} {pos : Pos} {s : Shared} {Q : Value → Shared → Prop} (hb : attributeBase e f env (eval e env) = eval e env)
  (h : wpAny (model prog w) A (eval e env) (fun o s₁ => wpAny (model prog w) A (getAttr o f true) Q E s₁) E s) : wpAny (model prog w) A (eval (.Attribute e f pos) env) Q E s :=
 Attribute_any_ h (by rw [arm_eval_Attribute, hb])
end
def Pn (K : PySem.W.Frag) (ta : TE) (f : Str) : TE := fun σ H Q => ta σ H fun x H1 => ∃ a C dx fs v, x = .ref a ∧ H1 a = some (.ins C dx fs) ∧ Cls K C ∧ cz K C f ∧ fs.lookup f = some v ∧ Q v H1
def Lh (K : PySem.W.Frag) (ta tv : TE) (f : Str) : TS := fun D σ H => tv σ H fun y H1 => ta σ H1 fun x H2 => ∃ a C dx fs, x = .ref a ∧ H2 a = some (.ins C dx fs) ∧ Cls K C ∧ cz K C f ∧ fs.length < 1000 ∧
 D.nx σ (upd H2 a (.ins C dx (ju f y fs)))
section
variable {X : Cx} {o e value : Expr} {f : Str} {pos pos' tpos : Pos} {ta tv : TE}
theorem cJ (he : PE X e ta) (hb : attributeBase e f X.env (eval e X.env) = eval e X.env) : PE X (.Attribute e f pos) (Pn X.K ta f) := by
 intro pins s σ H Q I h
 refine zE hb (thn (he pins s σ H _ I h) fun u s1 hz => ?_)
 obtain ⟨x, H1, I1, rx, a, C, dx, fs, v, ex, ea, c, n, l, q⟩ := hz
 subst ex
 obtain rfl : u = Value.ref a := rx
 exact yd I1 ea c n l fun u' s2 I2 ru => ⟨v, H1, I2, ru, q⟩
theorem Hi (ha : PE X o ta) (hv : PE X value tv) (hs : swapsWith value (some (.Attribute o f pos')) pos.line X.env = pure false) : PS X (.Assign [.Attribute o f pos'] value pos) (Lh X.K ta tv f) := by
 intro pins s σ H D I h
 refine plainObj_wpAny_Assign_Attribute (thn (hv pins s σ H _ I h) fun u s1 ⟨y, H1, I1, ry, q⟩ => thn (ha pins s1 σ H1 _ I1 q) fun ov s2 hz => ?_) hs
 obtain ⟨x, H2, I2, rx, a, C, dx, fs, ex, ea, c, n, l, q2⟩ := hz
 subst ex
 obtain rfl : ov = Value.ref a := rx
 exact yc I2 ea c n l ry fun s3 I3 => ⟨σ, _, I3, q2⟩
end
section
variable {X : Cx} {pins : List (Addr × Obj)} {σ : St} {H : Hp} {s : Shared} {A : Around} {E : Value → Shared → Prop} {Q : Value → Shared → Prop} {c : Value} {b : Bool}
inductive mC (K : PySem.W.Frag) (H : Hp) : V → Value → Prop where
 | non : mC K H .non (.type "NoneType")
 | bl (x : Bool) : mC K H (.bl x) (.type "bool")
 | int (i : Int) : mC K H (.int i) (.type "int")
 | str (x : Str) : mC K H (.str x) (.type "str")
 | flt (x : UInt64) : mC K H (.flt x) (.type "float")
 | lst {a : Addr} {xs : List V} (e : H a = some (.lst xs)) : mC K H (.ref a) (.type "list")
 | frz {a : Addr} {o : Obj} {xs : List V} (e : H a = some (.frz o (.lst xs))) : mC K H (.ref a) (.type "list")
 | tup {a : Addr} {xs : List V} (e : H a = some (.tup xs)) : mC K H (.ref a) (.type "tuple")
 | dK {a : Addr} {kvs : List (Key × V)} (e : H a = some (.dK kvs)) : mC K H (.ref a) (.type "dict")
 | dT {a : Addr} {kvs : List (List Key × V)} (e : H a = some (.dT kvs)) : mC K H (.ref a) (.type "dict")
 | ins {a C dx : Addr} {fs : List (Str × V)} (e : H a = some (.ins C dx fs)) (cl : Cls K C) (ha : PySem.W.findIn K (.ref C) "__class__" = some (some (.builtin "object.__class__")))
   (hn : PySem.W.specialIn K (.builtin "object.__class__") "__get__" = some (some (.builtin "getset_descriptor.__get__"))) (htk : PySem.W.takesIn K (.builtin "object.__class__") = some true)
   (hm : PySem.W.mroIn K C (.type "object") = some true) : mC K H (.ref a) (.ref C)
theorem uc {x : V} {u t : Value} (I : Inv X pins σ H s) (rx : RelV x u) (ty : mC X.K H x t) (e : PySem.W.kitOne X.K t c = some b) (h : ∀ tk, Q (.bool b) { s with toks := tk }) :
  wpAny (model X.prog X.w) A (call (.builtin "isinstance") [u, c]) Q E s := by
 cases ty with
 | non => cases (show u = Value.none from rx); exact PySem.W.kia_one PySem.W.kitx_none I.kIn True.intro e (fun z => nomatch z) h
 | bl y => cases (show u = Value.bool y from rx); exact PySem.W.kia_one PySem.W.kitx_bool I.kIn True.intro e (fun z => nomatch z) h
 | int i => obtain ⟨t, q⟩ := (show ∃ t, u = Value.int i t from rx); cases q; exact PySem.W.kia_one PySem.W.kitx_int I.kIn True.intro e (fun z => nomatch z) h
 | str y => obtain ⟨t, q⟩ := (show ∃ t, u = Value.str y t from rx); cases q; exact PySem.W.kia_one PySem.W.kitx_str I.kIn True.intro e (fun z => nomatch z) h
 | flt y => obtain ⟨t, q⟩ := (show ∃ t, u = Value.float y t from rx); cases q; exact PySem.W.kia_one PySem.W.kitx_float I.kIn True.intro e (fun z => nomatch z) h
 | @lst a xs ea =>
  cases (show u = Value.ref a from rx)
  obtain ⟨_, _, n, _, h1⟩ := (show bI X.prog X.w H s.heap a (.lst xs) from I.hok a _ ea)
  exact PySem.W.kia_one PySem.W.kitx_list I.kIn ⟨_, h1, rfl⟩ e (fun z => nomatch z) h
 | @frz a ob xs ea =>
  cases (show u = Value.ref a from rx)
  obtain ⟨_, _, _, n, _, h1⟩ := (show bI X.prog X.w H s.heap a (.frz ob (.lst xs)) from I.hok a _ ea)
  exact PySem.W.kia_one PySem.W.kitx_list I.kIn ⟨_, h1, rfl⟩ e (fun z => nomatch z) h
 | @tup a xs ea =>
  cases (show u = Value.ref a from rx)
  obtain ⟨_, _, _, p⟩ := (show bI X.prog X.w H s.heap a (.tup xs) from I.hok a _ ea)
  obtain ⟨o, h1, h2, _⟩ := p
  exact PySem.W.kia_one PySem.W.kitx_tuple I.kIn ⟨o, h1, h2⟩ e (fun z => nomatch z) h
 | @dK a kvs ea =>
  cases (show u = Value.ref a from rx)
  obtain ⟨_, _, vs, _, p⟩ := (show bI X.prog X.w H s.heap a (.dK kvs) from I.hok a _ ea)
  obtain ⟨o, es, ep, h1, h2, _⟩ := p
  exact PySem.W.kia_one PySem.W.kitx_dict I.kIn ⟨o, h1, h2.1⟩ e (fun z => nomatch z) h
 | @dT a kvs ea =>
  cases (show u = Value.ref a from rx)
  obtain ⟨_, _, xs, _, o, es, ep, h1, h2, _⟩ := (show bI X.prog X.w H s.heap a (.dT kvs) from I.hok a _ ea)
  exact PySem.W.kia_one PySem.W.kitx_dict I.kIn ⟨o, h1, h2.1⟩ e (fun z => nomatch z) h
 | @ins a C dx fs ea cl ha hn htk hm =>
  cases (show u = Value.ref a from rx)
  obtain ⟨mA, O, _⟩ := qm I.hok ea
  obtain ⟨od, J, _⟩ := O.look
  exact PySem.W.kia_one (PySem.W.kitx_own (cl.get _) cl.hd ha hn htk hm) I.kIn J e (fun z => nomatch z) h
end
structure aR (k : Nat) (A : Around) : Prop where
 hd : A.handled = none
 dp : A.depth + 3 * k + 5 < recursionLimit
 un : A.units + 16 * k + 200 < cLine
theorem aR.mono {j k : Nat} {A : Around} (r : aR k A) (h : j ≤ k) : aR j A := ⟨r.hd, by have := r.dp; omega, by have := r.un; omega⟩
theorem aR.deeper {k : Nat} {A : Around} (r : aR (k + 1) A) (env : Env) : aR k (A.deeper env) :=
 ⟨r.hd, by have := r.dp; show A.depth + 1 + 3 * k + 5 < _; omega, by have := r.un; show A.units + 3 + 16 * k + 200 < _; omega⟩
theorem xR {A : Around} {C : Addr} {us : List Value} {kw : List (Str × Value)} : (A.under (.builtin "type.__call__" ⟨.ref C :: us, kw⟩)).depth = A.depth + 1 := by
 first | rfl | simp [Around.under, Code.weight, Code.isCreation, Code.isGuard, Code.isCaller, Code.frames, Code.isFrame, guardIds]
theorem xP {A : Around} {C : Addr} {us : List Value} {kw : List (Str × Value)} : (A.under (.builtin "type.__call__" ⟨.ref C :: us, kw⟩)).units = A.units + 1 := by
 first | rfl | simp [Around.under, Code.cUnits, Code.frames, Code.isFrame]
theorem aR.make {k : Nat} {A : Around} (r : aR (k + 1) A) (C : Addr) (us : List Value) (kw : List (Str × Value)) : aR k (A.under (.builtin "type.__call__" ⟨.ref C :: us, kw⟩)) :=
 ⟨r.hd, by have := r.dp; rw [xR]; omega, by have := r.un; rw [xP]; omega⟩
theorem aR.depth {k : Nat} {A : Around} (r : aR k A) : A.depth < recursionLimit := by have := r.dp; omega
theorem aR.units {k : Nat} {A : Around} (r : aR k A) : A.units + 64 < cLine := by have := r.un; omega
def Ho : TA := fun _ H Q => Q [] H
def Gw (ta : TE) (tr : TA) : TA := fun σ H Q => ta σ H fun x H1 => tr σ H1 fun xs H2 => Q (x :: xs) H2
section
variable {X : Cx} {e : Expr} {es : List Expr} {te : TE} {t : TA} {pos : Pos}
theorem aq : PA X [] Ho := fun _ _ _ _ H Q I h => Calls.spliced_nil ⟨[], H, I, .nil, h⟩
theorem ak (ha : PE X e te) (hr : PA X es t) (hs : starEach (e :: es) X.env = (false, eval e X.env) :: starEach es X.env := by rfl) : PA X (e :: es) (Gw te t) := by
 intro pos pins s σ H Q I h
 rw [hs]
 show wpAny _ _ (spliced ((false, eval e X.env) :: backTo pos (starEach es X.env))) _ _ s
 refine Calls.spliced_cons (thn (ha pins s σ H _ I h) fun u s1 ⟨x, H1, I1, r1, q1⟩ => ?_)
 exact thn (hr pos pins s1 σ H1 _ I1 q1) fun us s2 ⟨xs, H2, I2, r2, q2⟩ => ⟨x :: xs, H2, I2, .cons r1 r2, q2⟩
def Ui (t : TA) : TE := fun σ H Q => t σ H fun xs H1 => xs.length ≤ sizeLine ∧ ∀ p, H1 p = none → Q (.ref p) (upd H1 p (.tup xs))
def Im (t : TA) : TE := fun σ H Q => t σ H fun xs H1 => xs.length ≤ sizeLine ∧ ∀ p, H1 p = none → Q (.ref p) (upd H1 p (.lst xs))
theorem iy {x1} (h : PA X es t) : PE X (.Tuple es x1 pos) (Ui t) := by
 intro pins s σ H Q I hq
 refine wpAny_Tuple_spliced (thn (h pos pins s σ H _ I hq) fun us s1 ⟨xs, H1, I1, r, z, q⟩ => ⟨by rw [← r.length]; exact z, ?_⟩)
 have hf : H1 s1.heap.objs.size = none := I1.hok.fresh (Nat.le_refl _)
 refine ⟨.ref s1.heap.objs.size, upd H1 s1.heap.objs.size (.tup xs), I1.laid (t' := s1.toks) (fun b u e => Heap.get?_push_of_some _ e) (Nat.le_refl _) ?_, rfl, q _ hf⟩
 exact ⟨z, us, r, ⟨_, Heap.get?_push_size _ rfl, rfl, _, rfl⟩⟩
theorem bH (h : PA X es t) : PE X (.List es pos) (Im t) := by
 intro pins s σ H Q I hq
 refine wpAny_List_spliced (thn (h pos pins s σ H _ I hq) fun us s1 ⟨xs, H1, I1, r, z, q⟩ => ⟨by rw [← r.length]; exact z, ?_⟩)
 have hf : H1 s1.heap.objs.size = none := I1.hok.fresh (Nat.le_refl _)
 refine ⟨.ref s1.heap.objs.size, upd H1 s1.heap.objs.size (.lst xs), I1.laid (t' := s1.toks) (fun b u e => Heap.get?_push_of_some _ e) (Nat.le_refl _) ?_, rfl, q _ hf⟩
 exact ⟨z, us, 0, r, Heap.get?_push_size _ rfl⟩
end
abbrev Sp := List V → Hp → VK → XK → Prop
abbrev CXT := List Env → Hp → Shared → XK → Value → Shared → Prop
structure yp (P : Program) (w : World) (K : PySem.W.Frag) (mg : Str → Option Value) (base : Heap) (A : Around) (outer : List Env) (s : Shared) (H : Hp) : Prop where
 frames : A.frames = some outer
 mod : Mod K mg base
 bs : ∀ b o, base.get? b = some o → s.heap.get? b = some o ∧ H b = none
 bsz : base.objs.size ≤ s.heap.objs.size
 funs : s.heap.FunFrames base outer
 frf : ∀ b ∈ frs outer, H b = none
 hok : HOk P w H s.heap
 bare : AllBare s.gens
def CE (outer : List Env) (P : Program) (w : World) (H : Hp) (s : Shared) (Q : VK) (u : Value) (s' : Shared) : Prop :=
 ∃ v H', s'.os = s.os ∧ AllBare s'.gens ∧ Un (frs outer) [] H H' s.heap s'.heap ∧ HOk P w H' s'.heap ∧ RelV v u ∧ Q v H'
def CR (CX : CXT) (outer : List Env) (P : Program) (w : World) (H : Hp) (s : Shared) (Q : VK) (E : XK) (r : Result) (s' : Shared) : Prop :=
 match r with
 | .ok (.ret u) => CE outer P w H s Q u s'
 | .ok _ => False
 | .error e => CX outer H s E e s'
structure aK (P : Program) (w : World) (K : PySem.W.Frag) (mg : Str → Option Value) (base : Heap) (CX : CXT) (k : Nat) (f : Addr) (fd : FuncData) (ps : List Str) (sp : Sp) : Prop where
 len : ∀ vs H Q E, sp vs H Q E → vs.length = ps.length
 run : ∀ (A : Around) (outer : List Env) (s : Shared) (H : Hp) (args : Args) (us : List Value) (vs : List V) (Q : VK) (E : XK), aR k A → yp P w K mg base A outer s H → BindsTo s fd args (ps.zip us) → Vals vs us → sp vs H Q E →
  codeAny (model P w) A (.call (.ref f) args) (CR CX outer P w H s Q E) s
theorem aK.mono {P : Program} {w : World} {K : PySem.W.Frag} {mg : Str → Option Value} {base : Heap} {CX : CXT} {j k : Nat} {f : Addr} {fd : FuncData} {ps : List Str} {sp : Sp} (F : aK P w K mg base CX j f fd ps sp) (h : j ≤ k) :
  aK P w K mg base CX k f fd ps sp := ⟨F.len, fun A outer s H args us vs Q E hr => F.run A outer s H args us vs Q E (hr.mono h)⟩
theorem aK.imp {P : Program} {w : World} {K : PySem.W.Frag} {mg : Str → Option Value} {base : Heap} {CX : CXT} {k : Nat} {f : Addr} {fd : FuncData} {ps : List Str} {sp sp' : Sp} (F : aK P w K mg base CX k f fd ps sp)
  (h : ∀ vs H Q E, sp' vs H Q E → sp vs H Q E) : aK P w K mg base CX k f fd ps sp' :=
 ⟨fun vs H Q E q => F.len vs H Q E (h _ _ _ _ q), fun A outer s H args us vs Q E hr he hb hv hs => F.run A outer s H args us vs Q E hr he hb hv (h _ _ _ _ hs)⟩
theorem yp.make {P : Program} {w : World} {K : PySem.W.Frag} {mg : Str → Option Value} {base : Heap} {A : Around} {outer : List Env} {s : Shared} {H : Hp} (e : yp P w K mg base A outer s H) (C : Addr) (us : List Value) (kw : List (Str × Value)) :
  yp P w K mg base (A.under (.builtin "type.__call__" ⟨.ref C :: us, kw⟩)) outer s H := ⟨by first | exact e.frames | (simpa [Around.under, Code.envs, Code.isFrame, pushEnvs] using e.frames), e.mod, e.bs, e.bsz, e.funs, e.frf, e.hok, e.bare⟩
section
variable {X : Cx} {pins : List (Addr × Obj)} {σ : St} {H : Hp} {s s' : Shared}
theorem Inv.env0 (I : Inv X pins σ H s) : yp X.prog X.w X.K X.mg X.base X.A X.stack s H :=
 ⟨I.ok.frames, I.ok.mod, I.bs, Nat.le_trans I.ok.bsz I.sz, I.stack, I.stkFree, I.hok, I.bare⟩
theorem Inv.after {Q : VK} {u : Value} (I : Inv X pins σ H s) (h : CE X.stack X.prog X.w H s Q u s') : EP X pins σ Q u s' := by
 obtain ⟨v, H', os, bare, un, hok, r, q⟩ := h
 obtain ⟨hh, g, d, t, os'⟩ := s'
 obtain rfl : os' = s.os := os
 exact ⟨v, H', I.call (h' := hh) (g' := g) (d' := d) (t' := t) (ch := []) un hok bare (fun b z => absurd z (by simp)), r, q⟩
end
def GK (sp : Sp) (dvs : List V) (E : XK) (t : TA) : TE := fun σ H Q => t σ H fun vs H1 => sp (vs ++ dvs) H1 Q E
def Gv (C : Addr) (m : Str) (sp : Sp) (dvs : List V) (E : XK) (ta : TE) (t : TA) : TE := fun σ H Q => ta σ H fun x H1 => ∃ a dx fs, x = .ref a ∧ H1 a = some (.ins C dx fs) ∧ fs.lookup m = none ∧
 t σ H1 fun vs H2 => sp (x :: (vs ++ dvs)) H2 Q E
def Gk (C : Addr) (sp : Sp) (dvs : List V) (E : XK) (t : TA) : TE := fun σ H Q => t σ H fun vs H1 => ∀ x dx, H1 x = none → H1 dx = none → dx ≠ x →
 sp (.ref x :: (vs ++ dvs)) (upd (upd H1 dx (.own x)) x (.ins C dx [])) (fun v H2 => v = .non ∧ Q (.ref x) H2) E
def Binds (K : PySem.W.Frag) (fd : FuncData) (ps : List Str) (ds : List Value) : Prop :=
 ∀ (s : Shared) (us : List Value), K.In s.heap → (us ++ ds).length = ps.length → BindsTo s fd ⟨us, []⟩ (ps.zip (us ++ ds))
theorem Binds.all {K : PySem.W.Frag} {fd : FuncData} {ps : List Str} (h : ∀ us : List Value, us.length = ps.length → bindArgs fd ⟨us, []⟩ = pure (ps.zip us)) : Binds K fd ps [] := fun s us _ hl => by
 rw [List.append_nil] at hl ⊢
 exact .of_eq (h us hl)
def jl (CX : CXT) (X : Cx) (E : XK) : Prop := ∀ (pins : List (Addr × Obj)) (σ : St) (H : Hp) (s : Shared) (e : Value) (s' : Shared), Inv X pins σ H s → CX X.stack H s E e s' → X.xe e s'
section
variable {X : Cx} {CX : CXT} {k : Nat} {f C : Addr} {fd : FuncData} {ps : List Str} {sp : Sp} {dvs : List V} {ds : List Value} {E : XK} {x m : Str} {p pos apos : Pos} {e o : Expr} {es : List Expr} {ta : TE} {t : TA}
theorem vQ {pins : List (Addr × Obj)} {σ : St} {H : Hp} {s : Shared} {Q : VK} {us : List Value} {vs : List V} (F : aK X.prog X.w X.K X.mg X.base CX k f fd ps sp) (hr : aR k X.A) (hb : Binds X.K fd ps ds) (hd : Vals dvs ds) (hx : jl CX X E)
  (I : Inv X pins σ H s) (r : Vals vs us) (h : sp (vs ++ dvs) H Q E) : wpAny (model X.prog X.w) X.A (call (.ref f) us) (EP X pins σ Q) X.xe s := by
 have r2 : Vals (vs ++ dvs) (us ++ ds) := r.append hd
 have hl : (us ++ ds).length = ps.length := by rw [← r2.length]; exact F.len _ _ _ _ h
 refine wpAny_call (codeAny_mono (F.run X.A X.stack s H ⟨us, []⟩ (us ++ ds) (vs ++ dvs) Q E hr I.env0 (hb s us I.kIn hl) r2 h) fun r s' hq => ?_)
 cases r with
 | error e => exact hx pins σ H s e s' I hq
 | ok fl =>
  cases fl with
  | ret u => exact I.after hq
  | next => exact False.elim hq
  | brk => exact False.elim hq
  | cont => exact False.elim hq
theorem Fl (F : aK X.prog X.w X.K X.mg X.base CX k f fd ps sp) (hr : aR k X.A) (hg : Gl X x) (hm : X.mg x = some (.ref f)) (hk : PySem.W.keepIn X.K (.ref f) = true) (hb : Binds X.K fd ps ds) (hd : Vals dvs ds) (hx : jl CX X E)
  (ha : PA X (e :: es) t) (hdb : (x == ("__debug__" : Str)) = false := by decide) (he : starEach (e :: es) X.env = (false, eval e X.env) :: starEach es X.env := by rfl) (hpl : (backTo pos (starEach es X.env)).any (·.1) = false := by rfl) :
  PE X (.Call (.Name x p) (e :: es) [] pos) (GK sp dvs E t) := by
 intro pins s σ H Q I h
 refine wpAny_Call_Name_kw (jP I hg hm ?_ hdb)
 refine PySem.W.callWith_K (h₀ := X.base) I.ok.mod.kin hk (thn (ha pos pins s σ H _ I h) fun us s1 ⟨vs, H1, I1, r, q⟩ => ⟨I1.kIn, ?_⟩) he hpl
 exact vQ F hr hb hd hx I1 r q
theorem Ew {pl : Sem Bool} (he : PE X o ta) (c : Cls X.K C) (hm : Meth X.K C m f) (F : aK X.prog X.w X.K X.mg X.base CX k f fd ps sp) (hr : aR k X.A) (hb : Binds X.K fd ps ds) (hd : Vals dvs ds) (hx : jl CX X E) (ha : PA X (e :: es) t)
  (hst : starEach (e :: es) X.env = (false, eval e X.env) :: starEach es X.env := by rfl) (hpl : (backTo pos (starEach es X.env)).any (·.1) = false := by rfl)
  (ht : eval (.Call (.Attribute o m apos) (e :: es) [] pos) X.env = (do
   let ov ← eval o X.env
   standAt apos.atName
   let (f, first) ← holding [ov] (getMethod ov m pl)
   callWith pos f first (backTo pos (starEach (e :: es) X.env)) (backToKw pos (keywordEach [] X.env))) := by rfl) :
  PE X (.Call (.Attribute o m apos) (e :: es) [] pos) (Gv C m sp dvs E ta t) := by
 intro pins s σ H Q I h
 refine PySem.W.methodCall_KW (pl := pl) (thn (he pins s σ H _ I h) fun u s1 ⟨x, H1, I1, rx, a, dx, fs, ex, ea, l, q⟩ => ?_) ht
 subst ex
 obtain rfl : u = Value.ref a := rx
 refine kY I1 ea c hm l ?_
 refine PySem.W.callWith_K (first := [.ref a]) (h₀ := X.base) I.ok.mod.kin hm.kp (thn (ha pos pins s1 σ H1 _ I1 q) fun us s2 ⟨vs, H2, I2, r, q2⟩ => ⟨I2.kIn, ?_⟩) hst hpl
 exact vQ (us := .ref a :: us) (vs := .ref a :: vs) F hr hb hd hx I2 (.cons rfl r) q2
theorem rQ {pl : Sem Bool} (he : PE X o ta) (c : Cls X.K C) (hm : Meth X.K C m f) (F : aK X.prog X.w X.K X.mg X.base CX k f fd ps sp) (hr : aR k X.A) (hb : Binds X.K fd ps ds) (hd : Vals dvs ds) (hx : jl CX X E)
  (ht : eval (.Call (.Attribute o m apos) [] [] pos) X.env = (do
   let ov ← eval o X.env
   standAt apos.atName
   let (f, first) ← holding [ov] (getMethod ov m pl)
   callWith pos f first (backTo pos (starEach [] X.env)) (backToKw pos (keywordEach [] X.env))) := by rfl) :
  PE X (.Call (.Attribute o m apos) [] [] pos) (Gv C m sp dvs E ta Ho) := by
 intro pins s σ H Q I h
 refine PySem.W.methodCall_KW (pl := pl) (thn (he pins s σ H _ I h) fun u s1 ⟨x, H1, I1, rx, a, dx, fs, ex, ea, l, q⟩ => ?_) ht
 subst ex
 obtain rfl : u = Value.ref a := rx
 refine kY I1 ea c hm l ?_
 exact PySem.W.callWith_K0 (first := [.ref a]) I1.kIn hm.kp (vQ (us := [.ref a]) (vs := [.ref a]) F hr hb hd hx I1 (.cons rfl .nil) q)
structure Mk (K : PySem.W.Frag) (C f : Addr) : Prop where
 makes : PySem.W.makesIn K C = true
 init : PySem.W.findIn K (.ref C) "__init__" = some (some (.ref f))
 fn : PySem.W.isFn K (.ref f) = true
 kp : PySem.W.keepIn K (.ref C) = true
theorem Cu {pins : List (Addr × Obj)} {σ : St} {H : Hp} {s : Shared} {Q : VK} {us : List Value} {vs : List V} (M : Mk X.K C f) (F : aK X.prog X.w X.K X.mg X.base CX k f fd ps sp) (hr : aR (k + 1) X.A) (hb : Binds X.K fd ps ds) (hd : Vals dvs ds)
  (hx : jl CX X E) (I : Inv X pins σ H s) (r : Vals vs us)
  (h : ∀ x dx, H x = none → H dx = none → dx ≠ x → sp (.ref x :: (vs ++ dvs)) (upd (upd H dx (.own x)) x (.ins C dx [])) (fun v H2 => v = .non ∧ Q (.ref x) H2) E) :
  wpAny (model X.prog X.w) X.A (call (.ref C) us) (EP X pins σ Q) X.xe s := by
 have hq := h (s.heap.objs.size + 1) s.heap.objs.size (I.hok.fresh (Nat.le_succ _)) (I.hok.fresh (Nat.le_refl _)) (Nat.ne_of_lt (Nat.lt_succ_self _))
 have I2 := Inv.made (C := C) I
 have r2 : Vals (V.ref (s.heap.objs.size + 1) :: (vs ++ dvs)) (Value.ref (s.heap.objs.size + 1) :: (us ++ ds)) := .cons rfl (r.append hd)
 have hl : (Value.ref (s.heap.objs.size + 1) :: us ++ ds).length = ps.length := by
  have e := r2.length
  rw [F.len _ _ _ _ hq] at e
  exact e.symm
 refine wpAny_call (Df (f := f) I.kIn M.makes M.init (beq_iff_eq.mp M.fn) (codeAny_mono (F.run _ X.stack _ _ ⟨Value.ref (s.heap.objs.size + 1) :: us, []⟩ (Value.ref (s.heap.objs.size + 1) :: (us ++ ds)) _ _ E (hr.make C us [])
  (I2.env0.make C us []) (hb _ (Value.ref (s.heap.objs.size + 1) :: us) I2.kIn hl) r2 hq) fun r s' hq' => ?_))
 cases r with
 | error e => exact hx pins σ _ _ e s' I2 hq'
 | ok fl =>
  cases fl with
  | ret u =>
   obtain ⟨v, H', I3, rv, ev, q3⟩ := I2.after hq'
   subst ev
   exact ⟨rv, ⟨V.ref (s.heap.objs.size + 1), H', I3, rfl, q3⟩⟩
  | next => exact False.elim hq'
  | brk => exact False.elim hq'
  | cont => exact False.elim hq'
theorem Ga (M : Mk X.K C f) (F : aK X.prog X.w X.K X.mg X.base CX k f fd ps sp) (hr : aR (k + 1) X.A) (hg : Gl X x) (hm : X.mg x = some (.ref C)) (hb : Binds X.K fd ps ds) (hd : Vals dvs ds) (hx : jl CX X E)
  (ha : PA X (e :: es) t) (hdb : (x == ("__debug__" : Str)) = false := by decide) (he : starEach (e :: es) X.env = (false, eval e X.env) :: starEach es X.env := by rfl) (hpl : (backTo pos (starEach es X.env)).any (·.1) = false := by rfl) :
  PE X (.Call (.Name x p) (e :: es) [] pos) (Gk C sp dvs E t) := by
 intro pins s σ H Q I h
 refine wpAny_Call_Name_kw (jP I hg hm ?_ hdb)
 refine PySem.W.callWith_K (h₀ := X.base) I.ok.mod.kin M.kp (thn (ha pos pins s σ H _ I h) fun us s1 ⟨vs, H1, I1, r, q⟩ => ⟨I1.kIn, ?_⟩) he hpl
 exact Cu M F hr hb hd hx I1 r q
end
section
variable {X : Cx} {CX : CXT} {k : Nat} {f C : Addr} {fd : FuncData} {ps ks : List Str} {sp : Sp} {E : XK} {x m : Str} {p pos apos kpos : Pos} {e o : Expr} {es : List Expr} {kws : List Keyword} {te ta : TE} {t tk : TA} {nm : Option Str}
variable {g : List Value → List Value → List Value} {gV : List V → List V → List V}
end
structure aH (N P : List Str) (sc : Scope) : Prop where
 kind : sc.kind = .function
 co : sc.isCoroutine = false
 gen : sc.isGenerator = false
 nd : N.Nodup
 pre : N.take P.length = P
 par : ∀ x ∈ P, sc.names.lookup x = some .local ∨ sc.names.lookup x = some .cell
 nofree : ∀ y ∈ sc.names, y.2 ≠ .free
theorem tV {kindOf : Str → Option NameKind} {x : Str} : ∀ {binds : List (Str × Value)} {m : Str → Option Value}, (∀ v, (x, v) ∉ binds) → bindL kindOf binds m x = m x
 | [], _, _ => rfl
 | (n, v) :: r, m, h => by
  unfold bindL
  rw [tV fun w hw => h w (List.mem_cons_of_mem _ hw)]
  split
  ·have : x ≠ n := by rintro rfl; exact h v List.mem_cons_self
   simp [this]
  ·rfl
theorem tR {kindOf : Str → Option NameKind} {x : Str} : ∀ {binds : List (Str × Value)} {m : Str → Option Value}, (∀ v, (x, v) ∉ binds) → bindC kindOf binds m x = m x
 | [], _, _ => rfl
 | (n, v) :: r, m, h => by
  unfold bindC
  rw [tR fun w hw => h w (List.mem_cons_of_mem _ hw)]
  split
  ·rfl
  ·have : x ≠ n := by rintro rfl; exact h v List.mem_cons_self
   simp [this]
theorem tO {kindOf : Str → Option NameKind} {x : Str} {v : Value} : ∀ {P : List Str} {vs : List Value} {i : Nat} {m : Str → Option Value}, P.Nodup → P[i]? = some x → vs[i]? = some v → kindOf x = some .local →
  bindL kindOf (P.zip vs) m x = some v
 | [], _, _, _, _, h, _, _ => by simp at h
 | _ :: _, [], _, _, _, _, h, _ => by simp at h
 | p :: P, w :: vs, 0, m, nd, h1, h2, hk => by
  simp at h1 h2; subst h1; subst h2
  show bindL kindOf ((p, w) :: P.zip vs) m p = _
  unfold bindL
  rw [tV fun v hv => (List.nodup_cons.mp nd).1 (List.of_mem_zip hv).1, if_pos hk]
  simp
 | p :: P, w :: vs, i + 1, m, nd, h1, h2, hk => by
  show bindL kindOf ((p, w) :: P.zip vs) m x = _
  unfold bindL
  exact tO (i := i) (List.nodup_cons.mp nd).2 (by simpa using h1) (by simpa using h2) hk
theorem uw {kindOf : Str → Option NameKind} {x : Str} {v : Value} : ∀ {P : List Str} {vs : List Value} {i : Nat} {m : Str → Option Value}, P.Nodup → P[i]? = some x → vs[i]? = some v → kindOf x ≠ some .local →
  bindC kindOf (P.zip vs) m x = some v
 | [], _, _, _, _, h, _, _ => by simp at h
 | _ :: _, [], _, _, _, _, h, _ => by simp at h
 | p :: P, w :: vs, 0, m, nd, h1, h2, hk => by
  simp at h1 h2; subst h1; subst h2
  show bindC kindOf ((p, w) :: P.zip vs) m p = _
  unfold bindC
  rw [tR fun v hv => (List.nodup_cons.mp nd).1 (List.of_mem_zip hv).1, if_neg hk]
  simp
 | p :: P, w :: vs, i + 1, m, nd, h1, h2, hk => by
  show bindC kindOf ((p, w) :: P.zip vs) m x = _
  unfold bindC
  exact uw (i := i) (List.nodup_cons.mp nd).2 (by simpa using h1) (by simpa using h2) hk
def start (N : List Str) (vs : List V) : St := vs.map some ++ List.replicate (N.length - vs.length) none
def mV (CX : CXT) (P : Program) (w : World) (K : PySem.W.Frag) (mg : Str → Option Value) (base : Heap) (N : List Str) (qual : Str) (scope : Scope) (f : Addr) (cd : Value) (A : Around) (outer : List Env) (s : Shared) (H : Hp) (E : XK) : Cx where
 prog := P
 w := w
 K := K
 mg := mg
 base := base
 A := A.deeper (envOfC qual scope s.heap.objs.size f cd)
 N := N
 s₀ := s
 H₀ := H
 env := envOfC qual scope s.heap.objs.size f cd
 outer := outer
 stack := envOfC qual scope s.heap.objs.size f cd :: outer
 ex := []
 calm := true
 fn := fun _ => true
 pn := []
 xe := fun e s' => wpAny (model P w) (A.deeper (envOfC qual scope s.heap.objs.size f cd)) («leaving» (envOfC qual scope s.heap.objs.size f cd) e) (fun _ s'' => CX outer H s E e s'') (fun e' s'' => CX outer H s E e' s'') s'
theorem wB {sc : Scope} {n : Nat} {x : Str} (h : sc.names.lookup x = some .cell) : ∃ c, (cellsFrom n sc.names []).lookup x = some c := by
 have q := PySem.W.cellsFrom_some sc.names n [] (.inl h)
 exact Option.isSome_iff_exists.mp q
theorem Av {CX : CXT} {P : Program} {w : World} {K : PySem.W.Frag} {mg : Str → Option Value} {base : Heap} {N ps : List Str} {qual : Str} {scope : Scope} {f : Addr} {cd : Value} {A : Around} {outer : List Env} {s s1 : Shared} {H : Hp} {E : XK} {us : List Value} {vs : List V}
  (S : aH N ps scope) (hd : A.handled = none) (e0 : yp P w K mg base A outer s H) (hl : vs.length = ps.length) (r : Vals vs us)
  (x : InCallC s s.heap.objs.size (bindL (envOfC qual scope s.heap.objs.size f cd).kindOf (ps.zip us) fun _ => none) (cellsFrom (s.heap.objs.size + 1) scope.names []) (bindC (envOfC qual scope s.heap.objs.size f cd).kindOf (ps.zip us) fun _ => none) s1) :
  Inv (mV CX P w K mg base N qual scope f cd A outer s H E) [] (start N vs) H s1 := by
 have hpl : ps.length ≤ N.length := by have := congrArg List.length S.pre; rw [List.length_take] at this; omega
 obtain ⟨h1, tk, rfl, hk⟩ := x.done
 have noA : ∀ b : Addr, b ∉ (mV CX P w K mg base N qual scope f cd A outer s H E).ex := fun b z => absurd (show b ∈ ([] : List Addr) from z) (by simp)
 refine ⟨⟨e0.mod, S.kind, rfl, rfl, Nat.le_refl _, fun y z c h1 h2 => ?_, fun y hy => ?_, fun y c _ h => ?_, fun _ => hd, Around.frames_deeper e0.frames, .inr ⟨rfl, rfl⟩, fun b z => absurd z (noA b), e0.bs, e0.bsz, fun b _ _ => noA b, fun b z => absurd z (noA b), e0.funs, e0.frf⟩,
  rfl, e0.bare, Un.kept hk, ⟨_, x.toInCall.ns, fun i y v h1 h2 h3 => ?_⟩, fun y c h => ⟨_, x.cell y c h⟩, e0.hok.fresh (Nat.le_refl _), fun y c h => ?_, fun p hp => absurd (show p ∈ ([] : List (Addr × Obj)) from hp) (by simp), e0.hok.kept hk, ?_⟩
 ·exact name_of_addr x.apart (PySem.mem_of_lookup h1) (PySem.mem_of_lookup h2)
 ·have hy : scope.names.lookup y = some .cell ∨ scope.names.lookup y = some .free := hy
  rcases hy with hy | hy
  ·exact wB hy
  ·exact absurd rfl (S.nofree _ (PySem.mem_of_lookup hy))
 ·exact Nat.le_of_lt (x.above y c (PySem.mem_of_lookup h))
 ·have hi : i < vs.length := by
   unfold start at h2
   by_cases hi : i < vs.length
   ·exact hi
   ·rw [List.getElem?_append_right (by simpa using hi)] at h2
    rw [List.getElem?_replicate] at h2
    split at h2 <;> cases h2
  have ha : vs[i]? = some v := by
   unfold start at h2
   rw [List.getElem?_append_left (by simpa using hi), List.getElem?_map] at h2
   cases e : vs[i]? with
   | none => rw [e] at h2; cases h2
   | some a => rw [e] at h2; cases h2; rfl
  obtain ⟨u, hu, rv⟩ := r.get ha
  have hp : ps[i]? = some y := by
   rw [← S.pre, List.getElem?_take_of_lt (by omega)]; exact h1
  have ndP : ps.Nodup := by rw [← S.pre]; exact S.nd.sublist (List.take_sublist _ _)
  refine ⟨u, rv, ?_⟩
  rcases S.par y (List.mem_of_getElem? hp) with k | k
  ·exact .inl ⟨k, tO ndP hp hu k⟩
  ·obtain ⟨c, e⟩ := wB (n := s.heap.objs.size + 1) k
   refine .inr ⟨.inl k, c, e, ?_⟩
   have q := x.cell y c e
   rw [uw ndP hp hu (by show scope.names.lookup y ≠ _; rw [k]; decide)] at q
   exact q
 ·exact e0.hok.fresh (Nat.le_of_lt (x.above y c (PySem.mem_of_lookup h)))
 ·unfold start
  show _ = N.length
  rw [List.length_append, List.length_map, List.length_replicate]
  omega
theorem GD {CX : CXT} {P : Program} {w : World} {K : PySem.W.Frag} {mg : Str → Option Value} {base : Heap} {k : Nat} {f : Addr} {name qual : Str} {params : Arguments} {body : List Stmt} {scope : Scope} {dV kV doc pm cdv ct oc : Value} {an od : Option Addr}
  {osl : Array (Option Value)} {N ps : List Str} {sp : Sp} (lk : K.lookup f = some ⟨oc, od, .func (PySem.W.fnOf name qual params body scope dV kV doc pm an cdv ct), osl⟩) (hcd : PySem.W.codeIn K cdv qual = true) (S : aH N ps scope)
  (len : ∀ vs H Q E, sp vs H Q E → vs.length = ps.length)
  (hbody : ∀ (A : Around) (outer : List Env) (s : Shared) (H : Hp) (vs : List V) (Q : VK) (E : XK), aR k (A.deeper (envOfC qual scope s.heap.objs.size f cdv)) → sp vs H Q E →
   ∃ t, PSs (mV CX P w K mg base N qual scope f cdv A outer s H E) body t ∧ t { nx := fun _ H' => Q .non H', rt := Q } (start N vs) H) :
  aK P w K mg base CX (k + 1) f (PySem.W.fnOf name qual params body scope dV kV doc pm an cdv ct) ps sp := by
 refine ⟨len, fun A outer s H args us vs Q E hr e0 hb r hsp => ?_⟩
 have hl := len _ _ _ _ hsp
 have KX : K.In s.heap := e0.mod.kin.keeps fun b o e => (e0.bs b o e).1
 have lim : s.heap.NoLimit := e0.mod.nolimit.keeps fun b o e => (e0.bs b o e).1
 have hkind : ∀ y ∈ ps.zip us, scope.names.lookup y.1 = some .local ∨ (scope.names.lookup y.1 = some .cell ∧ ((cellsFrom (s.heap.objs.size + 1) scope.names []).lookup y.1).isSome = true) := fun ⟨n, v⟩ hy => by
  rcases S.par n (List.of_mem_zip hy).1 with q | q
  ·exact .inl q
  ·exact .inr ⟨q, PySem.W.cellsFrom_some _ _ _ (.inl q)⟩
 refine codeAny_call_function hr.depth (KX _ _ lk) rfl S.co S.gen rfl (PySem.W.codeRec_of KX hcd) (hb _ _ _ _ ?_)
 refine wpAny_newFunctionEnv_cells S.kind hkind fun env he s1 x => ?_
 subst he
 refine ⟨lim.keeps x.toInCall.keep, codeAny_func ?_⟩
 obtain ⟨t, ht, hq⟩ := hbody A outer s H vs Q E (hr.deeper _) hsp
 have I : Inv (mV CX P w K mg base N qual scope f cdv A outer s H E) [] (start N vs) H s1 := Av S hr.hd e0 hl r x
 refine wpAny_mono (ht [] s1 (start N vs) H _ I hq) (fun fl s' hs => ?_) fun e s' hs => hs
 have fin : ∀ {σ' : St} {H' : Hp} {v : V} {u : Value}, Inv (mV CX P w K mg base N qual scope f cdv A outer s H E) [] σ' H' s' → RelV v u → Q v H' → CE outer P w H s Q u s' :=
  fun {σ' H' v u} J rv q => ⟨v, H', J.os, J.bare, J.base, J.hok, rv, q⟩
 cases fl with
 | ret u =>
  obtain ⟨v, σ', H', J, rv, q⟩ := hs
  exact fin J rv q
 | next =>
  obtain ⟨σ', H', J, q⟩ := hs
  exact fin (v := V.non) (u := Value.none) J rfl q
 | brk =>
  obtain ⟨_, _, _, q⟩ := hs
  exact False.elim q
 | cont =>
  obtain ⟨_, _, _, q⟩ := hs
  exact False.elim q
section
variable {X : Cx} {x : Str} {p pos : Pos} {e : Expr} {es : List Expr} {t : TA} {id T : String} {r : List V → Hp → VK → Prop}
def tCB (r : List V → Hp → VK → Prop) (t : TA) : TE := fun σ H Q => t σ H fun vs H1 => r vs H1 Q
theorem aY (hc : jE X (.builtin id) r) (hg : Gl X x) (hm : X.mg x = none) (hv : bootBuiltins x = some (.builtin id)) (ha : PA X (e :: es) t) (hn : x ≠ "__name__" := by decide) (hdb : (x == ("__debug__" : Str)) = false := by decide)
  (he : starEach (e :: es) X.env = (false, eval e X.env) :: starEach es X.env := by rfl) (hpl : (backTo pos (starEach es X.env)).any (·.1) = false := by rfl) : PE X (.Call (.Name x p) (e :: es) [] pos) (tCB r t) := by
 intro pins s σ H Q I h
 refine wpAny_Call_Name_kw (oU I hg hm hv ?_ hn hdb)
 exact PyProof.Rows.callWith_builtin1 (thn (ha pos pins s σ H _ I h) fun us s1 ⟨vs, H1, I1, r1, q1⟩ => hc pins s1 σ H1 vs us Q I1 r1 q1) he hpl
theorem dJ (hc : jE X (.type T) r) (hg : Gl X x) (hm : X.mg x = none) (hv : bootBuiltins x = some (.type T)) (ha : PA X (e :: es) t) (hn : x ≠ "__name__" := by decide) (hdb : (x == ("__debug__" : Str)) = false := by decide)
  (he : starEach (e :: es) X.env = (false, eval e X.env) :: starEach es X.env := by rfl) (hpl : (backTo pos (starEach es X.env)).any (·.1) = false := by rfl) : PE X (.Call (.Name x p) (e :: es) [] pos) (tCB r t) := by
 intro pins s σ H Q I h
 refine wpAny_Call_Name_kw (oU I hg hm hv ?_ hn hdb)
 exact PyProof.Rows.callWith_type1 (thn (ha pos pins s σ H _ I h) fun us s1 ⟨vs, H1, I1, r1, q1⟩ => hc pins s1 σ H1 vs us Q I1 r1 q1) he hpl
end
end L2
namespace HT
open PySem PyProof.Rows
section
open PySem.SeqAt
open PySem.AutoSeq1 (wpAny_loadPart')
open PySem.MeetsSeq PySem.MeetsSeq2 PySem.MeetsSeq3
end
section
variable {prog : Program} {w : World} {A : Around} {E : Value → Shared → Prop} {s : Shared}
def sIx (n d : Nat) : Option Int → Nat
 | none => d
 | some v => if v < 0 then (v + (n : Int)).toNat else min v.toNat n
theorem sIx_none (n d : Nat) : sIx n d none = d := rfl
theorem sIx_nat (n d k : Nat) : sIx n d (some (k : Int)) = min k n := by
 show (if (k : Int) < 0 then ((k : Int) + (n : Int)).toNat else min (k : Int).toNat n) = min k n
 rw [if_neg (by omega), Int.toNat_natCast]
end
end HT
namespace L2
open PySem PySem.Spec PyProof.Rows
abbrev TO := St → Hp → (Option Int → Hp → Prop) → Prop
def PO (X : Cx) (e : Option Expr) (t : TO) : Prop :=
 ∀ (pins : List (Addr × Obj)) (s : Shared) (σ : St) (H : Hp) (Q : Option Int → Hp → Prop), Inv X pins σ H s → t σ H Q →
  wpAny (model X.prog X.w) X.A (evalPart e X.env) (fun u s' => ∃ o H', Inv X pins σ H' s' ∧ IsPart u o ∧ Q o H') X.xe s
def Es : TO := fun _ H Q => Q none H
def QT (t : TE) : TO := fun σ H Q => t σ H fun x H1 => ∃ i, x = .int i ∧ Q (some i) H1
section
variable {X : Cx} {e : Expr} {te : TE} {lo hi : Option Expr} {tl th : TO} {pos p2 : Pos}
theorem jf : PO X none Es := by
 intro pins s σ H Q I h
 rw [evalPart_none]
 exact wpAny_pure ⟨none, H, I, .none, h⟩
theorem cW (h : PE X e te) : PO X (some e) (QT te) := by
 intro pins s σ H Q I hw
 rw [evalPart_some]
 refine thn (h pins s σ H _ I hw) fun u s1 ⟨x, H1, I1, r1, q1⟩ => ?_
 obtain ⟨i, rfl, q⟩ := q1
 obtain ⟨t, rfl⟩ := r1
 exact ⟨some i, H1, I1, .int i t, q⟩
def SlR (X : Cx) (r : V → Option Int → Option Int → Hp → VK → Prop) : Prop :=
 ∀ (pins : List (Addr × Obj)) (s : Shared) (σ : St) (H : Hp) (x : V) (v vl vu : Value) (lo hi : Option Int) (sl : Addr) (Q : VK), Inv X pins σ H s → RelV x v → s.heap.IsSliceOf sl vl vu .none → IsPart vl lo → IsPart vu hi → r x lo hi H Q →
  ∃ T id, typeLookup (.type T) "__getitem__" = pure (some (.builtin id)) ∧ s.TypeIs v T ∧ wpAny (model X.prog X.w) X.A (getItem v (.ref sl)) (EP X pins σ Q) X.xe s
def tSl (r : V → Option Int → Option Int → Hp → VK → Prop) (te : TE) (tl th : TO) : TE := fun σ H Q => te σ H fun x H1 => tl σ H1 fun l H2 => th σ H2 fun u H3 => r x l u H3 Q
theorem dm {r : V → Option Int → Option Int → Hp → VK → Prop} (hr : SlR X r) (he : PE X e te) (hl : PO X lo tl) (hu : PO X hi th) : PE X (.Subscript e (.Slice lo hi none p2) pos) (tSl r te tl th) := by
 intro pins s σ H Q I h
 refine Subscript_ (thn (he pins s σ H _ I h) fun v s1 ⟨x, H1, I1, r1, q1⟩ => ?_)
 refine wpAny_Slice (thn (hl pins s1 σ H1 _ I1 q1) fun vl s2 ⟨l, H2, I2, pl, q2⟩ => thn (hu pins s2 σ H2 _ I2 q2) fun vu s3 ⟨u, H3, I3, pu, q3⟩ => ?_)
 rw [evalPart_none]
 refine wpAny_pure ?_
 have I4 : Inv X pins σ H3 { s3 with heap := s3.heap.push { cls := .type "slice", data := .fields #[vl, vu, .none] } } := I3.kept (t' := s3.toks) fun b ob q => Heap.get?_push_of_some _ q
 obtain ⟨T, id, hT, ht, hg⟩ := hr pins { s3 with heap := s3.heap.push { cls := .type "slice", data := .fields #[vl, vu, .none] } } σ H3 x v vl vu l u s3.heap.objs.size Q I4 r1 (Heap.IsSliceOf.new ..) pl pu q3
 show wpAny (model X.prog X.w) X.A (subscriptTail e (.Slice lo hi none p2) v (.ref s3.heap.objs.size)) (EP X pins σ Q) X.xe { s3 with heap := s3.heap.push { cls := .type "slice", data := .fields #[vl, vu, .none] } }
 exact tail_any (ops := [.ref s3.heap.objs.size, v]) ht hT hg (by with_unfolding_all rfl)
def fB (xs : List V) (lo hi : Option Int) : List V := (xs.drop (HT.sIx xs.length 0 lo)).take (HT.sIx xs.length xs.length hi - HT.sIx xs.length 0 lo)
theorem wu (xs : List V) (lo hi : Option Int) : (fB xs lo hi).length ≤ xs.length := by
 unfold fB
 rw [List.length_take, List.length_drop]
 omega
end
def ixN (n : Nat) (i : Int) : Option Nat := if 0 ≤ i then (if i < n then some i.toNat else none) else if -(n : Int) ≤ i then some (i + n).toNat else none
def atI {α : Type} (xs : List α) (i : Int) : Option α := (ixN xs.length i).bind fun j => xs[j]?
theorem Eh {n : Nat} {i : Int} {j : Nat} (h : ixN n i = some j) : seqIndex? i n = some j ∧ j < n ∧ -(n : Int) ≤ i ∧ i < n := by
 unfold ixN at h
 by_cases h0 : 0 ≤ i
 ·rw [if_pos h0] at h
  by_cases h1 : i < n
  ·rw [if_pos h1] at h
   have e : i.toNat = j := Option.some.inj h
   exact ⟨by rw [seqIndex_of h0 h1, e], by omega, by omega, h1⟩
  ·rw [if_neg h1] at h; cases h
 ·rw [if_neg h0] at h
  by_cases h1 : -(n : Int) ≤ i
  ·rw [if_pos h1] at h
   have e : (i + n).toNat = j := Option.some.inj h
   exact ⟨by rw [seqIndex_neg (by omega) h1, e], by omega, h1, by omega⟩
  ·rw [if_neg h1] at h; cases h
theorem vm {α : Type} {xs : List α} {i : Int} {v : α} (h : atI xs i = some v) : ∃ j, seqIndex? i xs.length = some j ∧ xs[j]? = some v ∧ j < xs.length ∧ -(xs.length : Int) ≤ i ∧ i < xs.length := by
 unfold atI at h
 cases e : ixN xs.length i with
 | none => rw [e] at h; cases h
 | some j =>
  rw [e] at h
  obtain ⟨h1, h2, h3, h4⟩ := Eh e
  exact ⟨j, h1, h, h2, h3, h4⟩
theorem bu {α : Type} {xs : List α} {j : Nat} {v : α} (h : xs[j]? = some v) : atI xs (j : Int) = some v := by
 have hj : j < xs.length := (List.getElem?_eq_some_iff.mp h).1
 have e : ixN xs.length (j : Int) = some j := by
  unfold ixN
  rw [if_pos (by omega), if_pos (by omega)]; simp
 unfold atI; rw [e]; exact h
def yW (b : Expr) : Prop := ∀ o i, subscripted b false o i = operate [o, i] (getItem o i)
def IxR (X : Cx) (r : R2) : Prop :=
 ∀ (value slice : Expr) (pins : List (Addr × Obj)) (s : Shared) (σ : St) (H : Hp) (x y : V) (v u : Value) (Q : VK), Inv X pins σ H s → RelV x v → RelV y u → r x y H Q →
  subscripted slice false v u = operate [v, u] (getItem v u) → wpAny (model X.prog X.w) X.A (subscriptTail value slice v u) (EP X pins σ Q) X.xe s
def MtR (X : Cx) (id : String) (r : V → List V → Hp → VK → Prop) : Prop :=
 ∀ (pins : List (Addr × Obj)) (s : Shared) (σ : St) (H : Hp) (x : V) (xs : List V) (v : Value) (us : List Value) (Q : VK), Inv X pins σ H s → RelV x v → Vals xs us → r x xs H Q →
  wpAny (model X.prog X.w) X.A (call (.builtin id) (v :: us)) (EP X pins σ Q) X.xe s
section
variable {X : Cx} {a b : Expr} {ta tb : TE} {pos : Pos}
theorem bC {r : R2} (hr : IxR X r) (ha : PE X a ta) (hb : PE X b tb) (hs : yW b) : PE X (.Subscript a b pos) (tOp r ta tb) := by
 intro pins s σ H Q I h
 exact Subscript_ (Iw ha hb I h fun v u s2 x y H2 I2 rx ry q => hr a b pins s2 σ H2 x y v u Q I2 rx ry q (hs _ _))
def Jj (K : PySem.W.Frag) : R2 := fun x y H Q => ∃ p xs i v, x = .ref p ∧ y = .int i ∧ SqL K H p xs ∧ atI xs i = some v ∧ Q v H
def MJ (K : PySem.W.Frag) : R2 := fun x y H Q => ∃ p xs i v, x = .ref p ∧ y = .int i ∧ SqT K H p xs ∧ atI xs i = some v ∧ Q v H
def Sx : R2 := fun x y H Q => ∃ z i c, x = .str z ∧ y = .int i ∧ z.length ≤ sizeLine ∧ atI z.cps.toList i = some c ∧ Q (.str ⟨#[c]⟩) H
theorem aX : IxR X (Jj X.K) := by
 intro value slice pins s σ H x y v u Q I rx ry h hs
 obtain ⟨p, xs, i, z, rfl, rfl, hq, he, q⟩ := h
 cases rx
 obtain ⟨t, rfl⟩ := ry
 obtain ⟨its, r, pl, hz⟩ := I.list hq
 obtain ⟨j, h1, h2, h3, h4, h5⟩ := vm he
 obtain ⟨w, ew, rw'⟩ := r.get h2
 have hl := r.length
 have hn := vf
 have fin : EP X pins σ Q w s := ⟨z, H, I, rw', q⟩
 by_cases h0 : 0 ≤ i
 ·have hj : i.toNat = j := by
   rw [seqIndex_of h0 h5] at h1
   exact Option.some.inj h1
  exact item_listR pl.isList h0 (by omega) (by rw [hj]; simpa using ew) fin hs
 ·have hj : (i + (its.toArray.size : Int)).toNat = j := by
   rw [seqIndex_neg (by omega) h4] at h1
   rw [List.size_toArray, ← hl]
   exact Option.some.inj h1
  exact subscriptTail_builtinR (x := w) pl.isList.typeIs slot_list_getitem.lookup
   (wpAny_getItem_list_neg (Q := fun r s' => r = w ∧ EP X pins σ Q r s') pl.isList (by omega) (by rw [List.size_toArray] <;> omega) (by omega) (by rw [hj]; simpa using ew) ⟨rfl, fin⟩) hs
theorem xG : IxR X (MJ X.K) := by
 intro value slice pins s σ H x y v u Q I rx ry h hs
 obtain ⟨p, xs, i, z, rfl, rfl, hq, he, q⟩ := h
 cases rx
 obtain ⟨t, rfl⟩ := ry
 obtain ⟨its, r, pl, hz⟩ := I.tuple hq
 obtain ⟨j, h1, h2, h3, h4, h5⟩ := vm he
 obtain ⟨w, ew, rw'⟩ := r.get h2
 have hl := r.length
 have hn := vf
 have fin : EP X pins σ Q w s := ⟨z, H, I, rw', q⟩
 exact subscriptTail_builtinR (x := w) pl.typeIs slot_tuple_getitem.lookup
  (getItem_tuple (j := j) (Q := fun r s' => r = w ∧ EP X pins σ Q r s') pl (by omega) (by omega) (by rw [List.size_toArray, ← hl]; exact h1) (by simpa using ew) ⟨rfl, fin⟩) hs
theorem Bh : IxR X Sx := by
 intro value slice pins s σ H x y v u Q I rx ry h hs
 obtain ⟨z, i, c, rfl, rfl, hz, he, q⟩ := h
 obtain ⟨t, rfl⟩ := rx
 obtain ⟨t', rfl⟩ := ry
 obtain ⟨j, h1, h2, h3, h4, h5⟩ := vm he
 have hl : z.cps.toList.length = z.length := by simp [Str.length]
 rw [hl] at h1 h4 h5
 have hn := vf
 exact tail_any (typeIs_str s z t) slot_str_getitem.lookup (getItem_str (c := c) (by
  have e1 : decide (i < -(2 ^ 63 : Int)) = false := decide_eq_false (by omega)
  have e2 : decide (i ≥ 2 ^ 63) = false := decide_eq_false (by omega)
  rw [e1, e2, Bool.or_false]) (by rw [h1]; simpa using h2) ⟨.str ⟨#[c]⟩, H, I.tok _, ⟨_, rfl⟩, q⟩) hs
theorem Inv.lst {pins : List (Addr × Obj)} {σ : St} {H : Hp} {s : Shared} {p : Addr} {xs : List V} (I : Inv X pins σ H s) (h : H p = some (.lst xs)) :
  ∃ (its : List Value) (n : Nat), Vals xs its ∧ s.heap.get? p = some { cls := .type "list", data := .seq its.toArray n } ∧ xs.length ≤ sizeLine := by
 obtain ⟨z, its, n, r, e⟩ := I.hok p _ h
 exact ⟨its, n, r, e, z⟩
theorem uA (lo hi : Option Int) (n : Nat) : (sliceBounds lo hi none n).1 = ((HT.sIx n 0 lo : Nat) : Int) ∧ (sliceBounds lo hi none n).2.1 = ((HT.sIx n n hi : Nat) : Int) ∧ (sliceBounds lo hi none n).2.2 = 1 := by
 refine ⟨?_, ?_, rfl⟩
 ·cases lo with
  | none => simp [sliceBounds, HT.sIx]
  | some i =>
   simp only [sliceBounds, HT.sIx, Option.getD_none, show (1 : Int) > 0 by decide, if_true]
   by_cases h : i < 0
   ·simp only [h, if_true] <;> omega
   ·simp only [h, if_false] <;> omega
 ·cases hi with
  | none => simp [sliceBounds, HT.sIx]
  | some i =>
   simp only [sliceBounds, HT.sIx, Option.getD_none, show (1 : Int) > 0 by decide, if_true]
   by_cases h : i < 0
   ·simp only [h, if_true] <;> omega
   ·simp only [h, if_false] <;> omega
theorem tE (its : List Value) (lo hi : Option Int) : slicePick its.toArray lo hi none = ((its.drop (HT.sIx its.length 0 lo)).take (HT.sIx its.length its.length hi - HT.sIx its.length 0 lo)).toArray := by
 obtain ⟨h1, h2, h3⟩ := uA lo hi its.toArray.size
 unfold slicePick
 rw [h1, h2, h3]
 simp only [sliceRange_one, pick_run, List.size_toArray] <;> rfl
def Mt (K : PySem.W.Frag) : V → Option Int → Option Int → Hp → VK → Prop := fun x lo hi H Q => ∃ a xs, x = .ref a ∧ SqL K H a xs ∧ ∀ p, H p = none → Q (.ref p) (upd H p (.lst (fB xs lo hi)))
theorem iD : SlR X (Mt X.K) := by
 intro pins s σ H x v vl vu lo hi sl Q I rx hs pl pu h
 obtain ⟨a, xs, rfl, hx, q⟩ := h
 cases rx
 obtain ⟨its, r, ht, hz⟩ := I.list hx
 have hlen := r.length
 refine ⟨"list", _, slot_list_getitem.lookup, ht.isList.typeIs, ?_⟩
 refine wpAny_getItem_list_slice ht.isList hs pl pu .none (by simp) ?_ (by rw [List.size_toArray] <;> omega)
 rw [tE, ← hlen]
 refine ⟨.ref s.heap.objs.size, _, I.laid (t' := s.toks) (o := .lst (fB xs lo hi)) (fun b ob q => Heap.get?_push_of_some _ q) (Nat.le_refl _) ?_, rfl, q _ (I.hok.fresh (Nat.le_refl _))⟩
 exact ⟨Nat.le_trans (wu xs lo hi) hz, _, 0, (r.drop (HT.sIx xs.length 0 lo)).take (HT.sIx xs.length xs.length hi - HT.sIx xs.length 0 lo), Heap.get?_push_size _ rfl⟩
def cN : V → Bool
 | .non => true
 | .bl _ => true
 | .int _ => true
 | .str _ => true
 | _ => false
def eqV : V → V → Bool
 | .non, .non => true
 | .bl a, .bl b => a == b
 | .bl a, .int b => (if a then 1 else 0) == b
 | .int a, .bl b => a == (if b then 1 else 0)
 | .int a, .int b => a == b
 | .str a, .str b => a == b
 | _, _ => false
theorem IV {A : Around} {s : Shared} {y x : V} {u v : Value} (ry : RelV y u) (rx : RelV x v) (fy : cN y = true) (fx : cN x = true) : SeqAt.EqAt A s u v (eqV y x) := by
 cases y with
 | non =>
  cases ry
  cases x with
  | non => cases rx; exact SeqAt.EqAt.same _
  | bl b => cases rx; exact SeqAt.EqAt.none_bool b
  | int b => obtain ⟨t, rfl⟩ := rx; exact SeqAt.EqAt.none_int b t
  | str b => obtain ⟨t, rfl⟩ := rx; exact SeqAt.EqAt.none_str b t
  | _ => exact absurd (show false = true from fx) Bool.false_ne_true
 | bl a =>
  cases ry
  cases x with
  | non => cases rx; exact SeqAt.EqAt.bool_none a
  | bl b => cases rx; exact SeqAt.EqAt.bool_bool a b
  | int b => obtain ⟨t, rfl⟩ := rx; exact SeqAt.EqAt.bool_int a b t
  | str b => obtain ⟨t, rfl⟩ := rx; exact SeqAt.EqAt.bool_str a b t
  | _ => exact absurd (show false = true from fx) Bool.false_ne_true
 | int a =>
  obtain ⟨t', rfl⟩ := ry
  cases x with
  | non => cases rx; exact SeqAt.EqAt.int_none a t'
  | bl b => cases rx; exact SeqAt.EqAt.int_bool a t' b
  | int b => obtain ⟨t, rfl⟩ := rx; exact SeqAt.EqAt.int_int a t' b t
  | str b => obtain ⟨t, rfl⟩ := rx; exact SeqAt.EqAt.int_str a t' b t
  | _ => exact absurd (show false = true from fx) Bool.false_ne_true
 | str a =>
  obtain ⟨t', rfl⟩ := ry
  cases x with
  | non => cases rx; exact SeqAt.EqAt.str_none a t'
  | bl b => cases rx; exact SeqAt.EqAt.str_bool a t' b
  | int b => obtain ⟨t, rfl⟩ := rx; exact SeqAt.EqAt.str_int a t' b t
  | str b => obtain ⟨t, rfl⟩ := rx; exact SeqAt.EqAt.str_str a t' b t
  | _ => exact absurd (show false = true from fx) Bool.false_ne_true
 | _ => exact absurd (show false = true from fy) Bool.false_ne_true
def eqU (x : V) (u : Value) : Bool := match u with
 | .none => eqV .non x
 | .bool b => eqV (.bl b) x
 | .int i _ => eqV (.int i) x
 | .str z _ => eqV (.str z) x
 | _ => false
theorem Dz {x y : V} {u : Value} (r : RelV y u) (f : cN y = true) : eqU x u = eqV y x := by
 cases y with
 | non => cases r; rfl
 | bl b => cases r; rfl
 | int i => obtain ⟨t, rfl⟩ := r; rfl
 | str z => obtain ⟨t, rfl⟩ := r; rfl
 | _ => exact absurd (show false = true from f) Bool.false_ne_true
theorem nQ {x : V} : ∀ {xs : List V} {us : List Value}, Vals xs us → xs.all cN = true → us.any (eqU x) = xs.any fun y => eqV y x
 | _, _, .nil, _ => rfl
 | y :: xs, u :: us, .cons r t, f => by
  rw [List.all_cons, Bool.and_eq_true] at f
  rw [List.any_cons, List.any_cons, Dz r f.1, nQ t f.2]
theorem lE {A : Around} {s : Shared} {x : V} {v : Value} (rx : RelV x v) (fx : cN x = true) : ∀ {xs : List V} {us : List Value}, Vals xs us → xs.all cN = true → ∀ u ∈ us, SeqAt.EqAt A s u v (eqU x u)
 | _, _, .nil, _ => fun u hu => by cases hu
 | y :: xs, u :: us, .cons r t, f => fun u' hu => by
  rw [List.all_cons, Bool.and_eq_true] at f
  rcases List.mem_cons.mp hu with rfl | hu
  ·rw [Dz r f.1]; exact IV r rx f.1 fx
  ·exact lE rx fx t f.2 u' hu
def inV (x : V) (xs : List V) : Bool := xs.any fun y => eqV y x
def rIn (K : PySem.W.Frag) (neg : Bool) : R2 := fun x y H Q => ∃ p xs, y = .ref p ∧ (SqL K H p xs ∨ SqT K H p xs) ∧ cN x = true ∧ xs.all cN = true ∧ Q (.bl (if neg then !inV x xs else inV x xs)) H
theorem jD : OpR X (compareOp .In) (rIn X.K false) := by
 intro pins s σ H x y v u Q I rx ry h
 obtain ⟨p, xs, rfl, hq, fx, fs, q⟩ := h
 cases ry
 rcases hq with hq | hq
 ·obtain ⟨its, r, pl, hz⟩ := I.list hq
  refine SeqAt.in_listAt (eqU x) pl.isList (fun w hw => lE rx fx r fs w (by simpa using hw)) ⟨.bl _, H, I, rfl, ?_⟩
  rw [show its.toArray.any (eqU x) = its.any (eqU x) by simp, nQ r fs]
  exact q
 ·obtain ⟨its, r, pl, hz⟩ := I.tuple hq
  refine SeqAt.in_tupleAt (eqU x) pl (fun w hw => lE rx fx r fs w (by simpa using hw)) ⟨.bl _, H, I, rfl, ?_⟩
  rw [show its.toArray.any (eqU x) = its.any (eqU x) by simp, nQ r fs]
  exact q
theorem gO : OpR X (compareOp .NotIn) (rIn X.K true) := by
 intro pins s σ H x y v u Q I rx ry h
 obtain ⟨p, xs, rfl, hq, fx, fs, q⟩ := h
 cases ry
 rcases hq with hq | hq
 ·obtain ⟨its, r, pl, hz⟩ := I.list hq
  refine SeqAt.notIn_listAt (eqU x) pl.isList (fun w hw => lE rx fx r fs w (by simpa using hw)) ⟨.bl _, H, I, rfl, ?_⟩
  rw [show its.toArray.any (eqU x) = its.any (eqU x) by simp, nQ r fs]
  exact q
 ·obtain ⟨its, r, pl, hz⟩ := I.tuple hq
  refine SeqAt.notIn_tupleAt (eqU x) pl (fun w hw => lE rx fx r fs w (by simpa using hw)) ⟨.bl _, H, I, rfl, ?_⟩
  rw [show its.toArray.any (eqU x) = its.any (eqU x) by simp, nQ r fs]
  exact q
theorem aZ : jE X (.builtin "len") (fun xs H Q => ∃ p ys, xs = [.ref p] ∧ (SqL X.K H p ys ∨ SqT X.K H p ys) ∧ Q (.int ys.length) H) := by
 intro pins s σ H xs us Q I r h
 obtain ⟨p, ys, rfl, hq, q⟩ := h
 obtain ⟨u, rfl, rx⟩ := vals1 r
 cases rx
 have hn := vf
 rcases hq with hq | hq
 ·obtain ⟨its, r', pl, hz⟩ := I.list hq
  have hlen := r'.length
  exact Calls.call_len_list pl.isList (by simp only [List.size_toArray] <;> omega) ⟨.int ys.length, H, I.tok _, ⟨s.toks + 1, by rw [List.size_toArray, hlen]⟩, q⟩
 ·obtain ⟨its, r', pl, hz⟩ := I.tuple hq
  have hlen := r'.length
  exact len_tuple pl (by simp only [List.size_toArray] <;> omega) ⟨.int ys.length, H, I.tok _, ⟨s.toks + 1, by rw [List.size_toArray, hlen]⟩, q⟩
theorem cD : jE X (.type "list") (fun xs H Q => ∃ p ys, xs = [.ref p] ∧ (SqL X.K H p ys ∨ SqT X.K H p ys) ∧ ∀ l, H l = none → Q (.ref l) (upd H l (.lst ys))) := by
 intro pins s σ H xs us Q I r h
 obtain ⟨p, ys, rfl, hq, q⟩ := h
 obtain ⟨u, rfl, rx⟩ := vals1 r
 cases rx
 have fin : ∀ (its : List Value), Vals ys its → ys.length ≤ sizeLine → ∀ (h' : Heap) (c' : Nat), (∀ b o', s.heap.get? b = some o' → h'.get? b = some o') →
   h'.get? s.heap.objs.size = some { cls := .type "list", dict := none, data := .seq its.toArray c', slots := #[] } → EP X pins σ Q (.ref s.heap.objs.size) { s with heap := h' } := fun its r' hz h' c' kp e =>
  ⟨.ref s.heap.objs.size, _, I.laid (t' := s.toks) kp (Nat.le_refl _) (show bI X.prog X.w _ h' _ (.lst ys) from ⟨hz, its, c', r', e⟩), rfl, q _ (I.hok.fresh (Nat.le_refl _))⟩
 rcases hq with hq | hq
 ·obtain ⟨its, r', pl, hz⟩ := I.list hq
  have hlen := r'.length
  obtain ⟨o, ho, hc, n, hd⟩ := pl.isList
  exact call_list_seq p (.inl rfl) ho hc hd (fun h' c' kp e => fin its r' hz h' c' kp e) (by simp only [List.size_toArray] <;> omega)
 ·obtain ⟨its, r', pl, hz⟩ := I.tuple hq
  have hlen := r'.length
  obtain ⟨o, ho, hc, n, hd⟩ := pl
  exact call_list_seq p (.inr rfl) ho hc hd (fun h' c' kp e => fin its r' hz h' c' kp e) (by simp only [List.size_toArray] <;> omega)
theorem sW : jE X (.type "tuple") (fun xs H Q => ∃ p ys, xs = [.ref p] ∧ ((SqL X.K H p ys ∧ ∀ l, H l = none → Q (.ref l) (upd H l (.tup ys))) ∨ (SqT X.K H p ys ∧ Q (.ref p) H))) := by
 intro pins s σ H xs us Q I r h
 obtain ⟨p, ys, rfl, h⟩ := h
 obtain ⟨u, rfl, rx⟩ := vals1 r
 cases rx
 rcases h with ⟨hq, q⟩ | ⟨hq, q⟩
 ·obtain ⟨its, r', pl, hz⟩ := I.list hq
  have hlen := r'.length
  refine call_tuple_list pl.isList (fun h' kp => ?_) (by simp only [List.size_toArray] <;> omega)
  have I1 : Inv X pins σ H { s with heap := h' } := I.kept (t' := s.toks) kp
  have I2 : Inv X pins σ (upd H h'.objs.size (.tup ys)) { s with heap := h'.push { cls := .type "tuple", data := .seq its.toArray } } :=
   I1.laid (t' := s.toks) (fun b o e => Heap.get?_push_of_some _ e) (Nat.le_refl _) (show bI X.prog X.w _ _ _ (.tup ys) from ⟨hz, its, r', IsTup.new _ _⟩)
  exact ⟨.ref h'.objs.size, _, I2, rfl, q _ (I1.hok.fresh (Nat.le_refl _))⟩
 ·obtain ⟨its, r', pl, hz⟩ := I.tuple hq
  exact call_tuple_same pl ⟨.ref p, H, I, rfl, q⟩
def tyV (K : PySem.W.Frag) (T : String) (x : V) (H : Hp) : Prop := match x with
 | .str _ => T = "str"
 | .int _ => T = "int"
 | .ref p => (T = "list" ∧ ∃ xs, SqL K H p xs) ∨ (T = "tuple" ∧ ∃ o, K.lookup p = some o ∧ o.cls = .type "tuple" ∧ o.dict = none) ∨
   (T = "dict" ∧ ((∃ kvs, H p = some (.dK kvs)) ∨ ∃ kvs, H p = some (.dT kvs))) ∨ (T = "set" ∧ ∃ S n, H p = some (.set S n))
 | _ => False
theorem Dv {pins : List (Addr × Obj)} {σ : St} {H : Hp} {s : Shared} {T : String} {x : V} {v : Value} (I : Inv X pins σ H s) (r : RelV x v) (ty : tyV X.K T x H) :
  s.TypeIs v T ∧ ∀ a, v = .ref a → ∃ ob, s.heap.get? a = some ob ∧ ob.dict = none := by
 cases x with
 | str z =>
  obtain ⟨t, rfl⟩ := r
  cases (show T = "str" from ty)
  exact ⟨typeIs_str s z t, fun _ e => nomatch e⟩
 | int i =>
  obtain ⟨t, rfl⟩ := r
  cases (show T = "int" from ty)
  exact ⟨typeIs_int s i t, fun _ e => nomatch e⟩
 | ref p =>
  cases r
  rcases ty with ⟨rfl, xs, hq⟩ | ⟨rfl, o, hk, hc, hd⟩ | ⟨rfl, hk⟩ | ⟨rfl, S, n, hk⟩
  ·obtain ⟨its, _, pl, _⟩ := I.list hq
   refine ⟨pl.isList.typeIs, fun a e => ?_⟩
   cases e
   obtain ⟨o, n, e, c, hd, _⟩ := pl
   exact ⟨o, e, hd⟩
  ·refine ⟨⟨o, I.kIn p o hk, hc⟩, fun a e => ?_⟩
   cases e
   exact ⟨o, I.kIn _ o hk, hd⟩
  ·have z : ∃ o, s.heap.get? p = some o ∧ o.ExactDict := by
    rcases hk with ⟨kvs, hk⟩ | ⟨kvs, hk⟩
    ·obtain ⟨_, _, _, _, o, _, _, e, ex, _⟩ := I.hok p _ hk
     exact ⟨o, e, ex⟩
    ·obtain ⟨_, _, _, _, o, _, _, e, ex, _⟩ := I.hok p _ hk
     exact ⟨o, e, ex⟩
   obtain ⟨o, e, ex⟩ := z
   refine ⟨⟨o, e, ex.1⟩, fun a e2 => ?_⟩
   cases e2
   exact ⟨o, e, ex.2.1⟩
  ·obtain ⟨o, _, _, _, e, ex, _⟩ := I.hok p _ hk
   refine ⟨⟨o, e, ex.1⟩, fun a e2 => ?_⟩
   cases e2
   exact ⟨o, e, ex.2.1⟩
 | _ => exact False.elim ty
def RX (K : PySem.W.Frag) (T : String) (r : V → List V → Hp → VK → Prop) (to : TE) : TE := fun σ H Q => to σ H fun x H1 => tyV K T x H1 ∧ r x [] H1 Q
def tBM (K : PySem.W.Frag) (T : String) (r : V → List V → Hp → VK → Prop) (to : TE) (t : TA) : TE := fun σ H Q => to σ H fun x H1 => tyV K T x H1 ∧ t σ H1 fun xs H2 => r x xs H2 Q
variable {o e : Expr} {es : List Expr} {to : TE} {t : TA} {name : Str} {apos cpos : Pos} {T id : String} {r : V → List V → Hp → VK → Prop}
theorem Dq (pa : PlainAttrs T) (slot : Slot T name id) (hty : typeOf (.builtin id) = pure (.type "method_descriptor")) (hm : MtR X id r) (ho : PE X o to)
  (hbase : attributeBase o name X.env (eval o X.env) = eval o X.env := by rfl) (hline : (apos.endLine == cpos.line) = true := by rfl) : PE X (.Call (.Attribute o name apos) [] [] cpos) (RX X.K T r to) := by
 intro pins s σ H Q I h
 refine wpAny_Call_method0_late hbase hline (thn (ho pins s σ H _ I h) fun v s1 ⟨x, H1, I1, r1, ty, q1⟩ => ?_)
 obtain ⟨h1, h2⟩ := Dv I1 r1 ty
 exact ⟨T, id, pa, slot, hty, h1, h2, Calls.callWith_builtin rfl (PySem.evalArgs_none (hm pins s1 σ H1 x [] v [] Q I1 r1 .nil q1))⟩
theorem dD (pa : PlainAttrs T) (slot : Slot T name id) (hty : typeOf (.builtin id) = pure (.type "method_descriptor")) (hm : MtR X id r) (ho : PE X o to) (ha : PA X (e :: es) t)
  (hbase : attributeBase o name X.env (eval o X.env) = eval o X.env := by rfl)
  (hfew : ((backTo cpos (starEach (e :: es) X.env)).all (fun x => !x.1) && (backToKw cpos (keywordEach [] X.env)).all (fun x => x.1.isSome)
   && decide ((e :: es).length + ([] : List Keyword).length + (if ([] : List Keyword).isEmpty then 0 else 1) < 30)) = true := by rfl)
  (hline : (apos.endLine == cpos.line) = true := by rfl) (hs : starEach (e :: es) X.env = (false, eval e X.env) :: starEach es X.env := by rfl) (hplain : (backTo cpos (starEach es X.env)).any (·.1) = false := by rfl) :
  PE X (.Call (.Attribute o name apos) (e :: es) [] cpos) (tBM X.K T r to t) := by
 intro pins s σ H Q I h
 refine wpAny_Call_method_late hbase hfew hline rfl (thn (ho pins s σ H _ I h) fun v s1 ⟨x, H1, I1, r1, ty, q1⟩ => ?_)
 obtain ⟨h1, h2⟩ := Dv I1 r1 ty
 refine ⟨T, id, pa, slot, hty, h1, h2, ?_⟩
 have hA := ha cpos pins s1 σ H1 _ I1 q1
 rw [hs] at hA ⊢
 refine Calls.callWith_builtin (by show (false || (backTo cpos (starEach es X.env)).any (·.1)) = false; rw [hplain] <;> rfl) (Calls.evalArgs_plain ?_)
 exact thn hA fun us s2 ⟨vs, H2, I2, r2, q2⟩ => hm pins s2 σ H2 x vs v us Q I2 r1 r2 q2
end
def MtM (X : Cx) (id : String) (r : V → List V → Hp → VK → Prop) : Prop :=
 ∀ (pins : List (Addr × Obj)) (s : Shared) (σ : St) (H : Hp) (x : V) (xs : List V) (v : Value) (us : List Value) (Q : VK), Inv X pins σ H s → RelV x v → Vals xs us → r x xs H Q →
  wpAny (model X.prog X.w) X.A (call (.builtin id) (v :: us)) (EP X pins σ Q) X.xe s
theorem Vals.one : ∀ {x : V} {us : List Value}, Vals [x] us → ∃ u, us = [u] ∧ RelV x u
 | _, _, .cons r .nil => ⟨_, rfl, r⟩
theorem Vals.zero : ∀ {us : List Value}, Vals [] us → us = []
 | _, .nil => rfl
theorem Vals.dropLast {xs : List V} {us : List Value} (h : Vals xs us) : Vals xs.dropLast us.dropLast := by
 induction h with
 | nil => exact .nil
 | cons r t ih =>
  cases t with
  | nil => exact .nil
  | cons q t' => exact .cons r ih
theorem Vals.eraseIdx : ∀ {xs : List V} {us : List Value} (i : Nat), Vals xs us → Vals (xs.eraseIdx i) (us.eraseIdx i)
 | _, _, _, .nil => .nil
 | _, _, 0, .cons _ t => t
 | _, _, i + 1, .cons r t => .cons r (Vals.eraseIdx i t)
theorem Vals.reverse {xs : List V} {us : List Value} (h : Vals xs us) : Vals xs.reverse us.reverse := by
 induction h with
 | nil => exact .nil
 | cons r t ih => rw [List.reverse_cons, List.reverse_cons]; exact Vals.append ih (.cons r .nil)
theorem yj {α : Type} (l : List α) : l.eraseIdx (l.length - 1) = l.dropLast := by
 induction l with
 | nil => rfl
 | cons a r ih =>
  cases r with
  | nil => rfl
  | cons b r =>
   have e : (a :: b :: r).length - 1 = ((b :: r).length - 1) + 1 := by
    have h1 : (a :: b :: r).length = r.length + 2 := rfl
    have h2 : (b :: r).length = r.length + 1 := rfl
    omega
   rw [e, List.eraseIdx_cons_succ, ih]
   all_goals rfl
theorem ul {α : Type} : ∀ (l : List α) (i : Nat), (l.eraseIdx i).length ≤ l.length
 | [], _ => Nat.le_refl _
 | _ :: _, 0 => Nat.le_succ _
 | _ :: r, i + 1 => Nat.succ_le_succ (ul r i)
section
variable {X : Cx} {pins : List (Addr × Obj)} {σ : St} {H : Hp} {s : Shared} {l b : Addr} {xs ys zs : List V}
theorem Inv.lset {its its' : List Value} {n : Nat} {f : Array Value → Array Value} {t' : Nat} (I : Inv X pins σ H s) (hH : H l = some (.lst xs))
  (e : s.heap.get? l = some { cls := .type "list", data := .seq its.toArray n }) (hf : f its.toArray = its'.toArray) (hv : Vals ys its') (hz : ys.length ≤ sizeLine) :
  Inv X pins σ (upd H l (.lst ys)) { s with heap := s.heap.update l (Obj.mapSeq f), toks := t' } := by
 have q := PySem.IsL.update e f
 rw [hf] at q
 refine I.write (x := l) (e := l) (by rw [hH]; exact trivial) (.inl rfl) (fun b' u hb hu => (Heap.get?_update_other s.heap (Obj.mapSeq f) (Ne.symm hb)).trans hu) ⟨_, q⟩ ?_
 exact ⟨hz, its', _, hv, q⟩
theorem Inv.lnew {its : List Value} {t' : Nat} (I : Inv X pins σ H s) (hv : Vals ys its) (hz : ys.length ≤ sizeLine) :
  Inv X pins σ (upd H s.heap.objs.size (.lst ys)) { s with heap := s.heap.push { cls := .type "list", data := .seq its.toArray }, toks := t' } :=
 I.laid (fun _ _ q => Heap.get?_push_of_some _ q) (Nat.le_refl _) ⟨hz, its, 0, hv, Heap.get?_push_size _ rfl⟩
theorem Inv.fresh (I : Inv X pins σ H s) : H s.heap.objs.size = none := I.hok.fresh (Nat.le_refl _)
theorem Inv.lstM (I : Inv X pins σ H s) (hH : H l = some (.lst xs)) : xs.length ≤ sizeLine ∧ ∃ (its : List Value) (n : Nat), Vals xs its ∧ xs.length = its.length ∧ s.heap.get? l = some { cls := .type "list", data := .seq its.toArray n } := by
 obtain ⟨z, its, n, r, e⟩ := I.hok l _ hH
 exact ⟨z, its, n, r, r.length, e⟩
theorem Dl {n : Nat} (h : n ≤ sizeLine) : Builtin.List.listTooLong n = false := by
 unfold Builtin.List.listTooLong
 exact decide_eq_false (by omega)
end
section
variable {X : Cx}
def Fd : V → List V → Hp → VK → Prop := fun x vs H Q => ∃ l xs y, x = .ref l ∧ vs = [y] ∧ H l = some (.lst xs) ∧ xs.length < sizeLine ∧ Q .non (upd H l (.lst (xs ++ [y])))
theorem fG : MtM X "list.append" Fd := by
 intro pins s σ H x vs v us Q I rx rv h
 obtain ⟨l, xs, y, rfl, rfl, hH, hz, q⟩ := h
 cases rx
 obtain ⟨u, rfl, ru⟩ := rv.one
 obtain ⟨z, its, n, r, hl, e⟩ := I.lstM hH
 refine call_meets F.slot_list_append ⟨_, e, rfl⟩ F.entry_list_append (F.args_list_append_2 _ _) (PySem.list_append l its.toArray n u (by rw [List.size_toArray]; omega)) ⟨e, ?_⟩
 refine ⟨.non, _, I.lset (its' := its ++ [u]) hH e (by simp) (r.append (.cons ru .nil)) ?_, rfl, q⟩
 rw [List.length_append, List.length_singleton]
 omega
def Fw : V → List V → Hp → VK → Prop := fun x vs H Q => ∃ l b xs zs, x = .ref l ∧ vs = [.ref b] ∧ H l = some (.lst xs) ∧ H b = some (.lst zs) ∧ xs.length + zs.length ≤ sizeLine ∧ Q .non (upd H l (.lst (xs ++ zs)))
theorem oZ : MtM X "list.extend" Fw := by
 intro pins s σ H x vs v us Q I rx rv h
 obtain ⟨l, b, xs, zs, rfl, rfl, hH, hB, hz, q⟩ := h
 cases rx
 obtain ⟨u, rfl, ru⟩ := rv.one
 cases ru
 obtain ⟨z, its, n, r, hl, e⟩ := I.lstM hH
 obtain ⟨z2, its2, n2, r2, hl2, e2⟩ := I.lstM hB
 have hsz : its.toArray.size + its2.toArray.size ≤ sizeLine := by rw [List.size_toArray, List.size_toArray]; omega
 have hlong : ¬ (!its.toArray.isEmpty && Builtin.List.listTooLong (its.toArray.size + its2.toArray.size)) = true := by
  rw [Dl hsz, Bool.and_false]
  exact Bool.false_ne_true
 refine call_meets F.slot_list_extend ⟨_, e, rfl⟩ F.entry_list_extend (F.args_list_extend_2 _ _)
  (AutoSeq1.list_extend_list_list_0 l its.toArray n b its2.toArray n2 hlong (by rw [List.size_toArray]; omega) (by omega)) ⟨e, e2, ?_⟩
 refine ⟨.non, _, I.lset (its' := its ++ its2) hH e (by simp) (r.append r2) ?_, rfl, q⟩
 rw [List.length_append]
 omega
def Tn : V → List V → Hp → VK → Prop := fun x vs H Q => ∃ l xs y, x = .ref l ∧ vs = [] ∧ H l = some (.lst xs) ∧ xs[xs.length - 1]? = some y ∧ Q y (upd H l (.lst xs.dropLast))
theorem HY : MtM X "list.pop" Tn := by
 intro pins s σ H x vs v us Q I rx rv h
 obtain ⟨l, xs, y, rfl, rfl, hH, hy, q⟩ := h
 cases rx
 have hus := rv.zero
 subst hus
 obtain ⟨z, its, n, r, hl, e⟩ := I.lstM hH
 obtain ⟨u, hu, ru⟩ := r.get hy
 have hy' : its.toArray[its.toArray.size - 1]? = some u := by
  show its.toArray[its.length - 1]? = some u
  rw [← Array.getElem?_toList, ← hl]
  exact hu
 refine call_meets F.slot_list_pop ⟨_, e, rfl⟩ F.entry_list_pop (F.args_list_pop_1 _) (MeetsSeq.list_pop_last l its.toArray n u hy' (by rw [List.size_toArray]; omega)) ⟨e, ?_⟩
 refine ⟨y, _, I.lset (its' := its.dropLast) hH e ?_ r.dropLast ?_, ru, q⟩
 ·show its.toArray.eraseIdxIfInBounds (its.toArray.size - 1) = its.dropLast.toArray
  rw [List.size_toArray, List.eraseIdxIfInBounds_toArray, yj]
 ·rw [List.length_dropLast]
  omega
def IW : V → List V → Hp → VK → Prop := fun x vs H Q => ∃ l xs i k y, x = .ref l ∧ vs = [.int i] ∧ H l = some (.lst xs) ∧ -(2 ^ 63) ≤ i ∧ i < 2 ^ 63 ∧ seqIndex? i xs.length = some k ∧ xs[k]? = some y ∧ Q y (upd H l (.lst (xs.eraseIdx k)))
theorem DG : MtM X "list.pop" IW := by
 intro pins s σ H x vs v us Q I rx rv h
 obtain ⟨l, xs, i, k, y, rfl, rfl, hH, h1, h2, hk, hy, q⟩ := h
 cases rx
 obtain ⟨u, rfl, ru⟩ := rv.one
 obtain ⟨t, rfl⟩ := ru
 obtain ⟨z, its, n, r, hl, e⟩ := I.lstM hH
 obtain ⟨w, hw, rw'⟩ := r.get hy
 refine call_meets F.slot_list_pop ⟨_, e, rfl⟩ F.entry_list_pop (F.args_list_pop_2 _ _)
  (MeetsSeq.list_pop_at l its.toArray n i t k w (fitsIndex_both h1 h2) (by rw [List.size_toArray, ← hl]; exact hk) (by rw [← Array.getElem?_toList]; exact hw) (by rw [List.size_toArray]; omega)) ⟨e, ?_⟩
 refine ⟨y, _, I.lset (its' := its.eraseIdx k) hH e ?_ (r.eraseIdx k) ?_, rw', q⟩
 ·show its.toArray.eraseIdxIfInBounds k = (its.eraseIdx k).toArray
  rw [List.eraseIdxIfInBounds_toArray]
 ·have := ul xs k
  omega
def Ci : V → List V → Hp → VK → Prop := fun x vs H Q => ∃ l xs, x = .ref l ∧ vs = [] ∧ H l = some (.lst xs) ∧ Q .non (upd H l (.lst xs.reverse))
theorem xW : MtM X "list.reverse" Ci := by
 intro pins s σ H x vs v us Q I rx rv h
 obtain ⟨l, xs, rfl, rfl, hH, q⟩ := h
 cases rx
 have hus := rv.zero
 subst hus
 obtain ⟨z, its, n, r, hl, e⟩ := I.lstM hH
 refine call_meets F.slot_list_reverse ⟨_, e, rfl⟩ F.entry_list_reverse (F.args_list_reverse_1 _) (AutoSeq1.list_reverse_list_0 l its.toArray n (by rw [List.size_toArray]; omega)) ⟨e, ?_⟩
 refine ⟨.non, _, I.lset (its' := its.reverse) hH e (by simp) r.reverse ?_, rfl, q⟩
 rw [List.length_reverse]
 omega
def Ss : R2 := fun x y H Q => ∃ l b xs zs, x = .ref l ∧ y = .ref b ∧ H l = some (.lst xs) ∧ H b = some (.lst zs) ∧ xs.length + zs.length ≤ sizeLine ∧ ∀ p, H p = none → Q (.ref p) (upd H p (.lst (xs ++ zs)))
theorem o7 : OpR X (binaryOp .Add) Ss := by
 intro pins s σ H x y v u Q I rx ry h
 obtain ⟨l, b, xs, zs, rfl, rfl, hH, hB, hz, q⟩ := h
 cases rx
 cases ry
 obtain ⟨z, its, n, r, hl, e⟩ := I.lstM hH
 obtain ⟨z2, its2, n2, r2, hl2, e2⟩ := I.lstM hB
 refine PySem.P.add_list e e2 ?_ (by rw [List.size_toArray, List.size_toArray]; omega)
 have ea : its.toArray ++ its2.toArray = (its ++ its2).toArray := by simp
 rw [ea]
 exact ⟨.ref _, _, I.lnew (t' := s.toks) (r.append r2) (by rw [List.length_append]; omega), rfl, q _ I.fresh⟩
end
section
variable {prog : Program} {w : World} {A : Around} {E : Value → Shared → Prop} {s : Shared}
end
section
variable {X : Cx}
end
end L2
namespace Att
open PySem PySem.W PySem.Calls PyProof.Rows
theorem pY {P : Params} {h : Heap} : ∀ (ns : List Int) (vs : List Value), WellAll P h vs (ns.map WData.int) → IntsAre vs ns := by
 intro ns
 induction ns with
 | nil =>
  intro vs w
  rw [List.map_nil] at w
  cases w
  exact .nil
 | cons n ns ih =>
  intro vs w
  rw [List.map_cons] at w
  cases w with
  | cons a b =>
   cases a
   exact .cons _ _ (ih _ b)
theorem Bb {l : OpenLaw} {n : Nat} (hn : l.most = some n) {P : Params} {h : Heap} {args : List WData} {vals : List Value}
  (hpre : l.row.toRowW.claim.pre args = true) (hwl : WellAll P h vals args) :
  ∃ a vs ns, vals = [Value.ref a] ∧ args = [WData.list (ns.map WData.int)] ∧ h.get? a = some { cls := .type "list", data := .seq vs.toArray } ∧ IntsAre vs ns ∧ ns.length ≤ n := by
 have hsh : WShape.hasAll [] args [.list .int] = true := (pre_splitW hpre).1
 have hc : l.pre.holds [] { args := args } = true := (pre_splitW hpre).2
 obtain ⟨d, r, rfl, h1, h2⟩ := hasAllW_cons hsh
 obtain rfl := hasAllW_nil h2
 obtain ⟨xs, rfl, h3⟩ := hasW_list h1
 obtain ⟨ns, rfl⟩ := items_int h3
 have hlen : ns.length ≤ n := by
  unfold OpenLaw.pre at hc
  have h4 : (WTm.not (.lt (.lit (.int (n : Int))) (.len (.arg 0)))).holds [] { args := [.list (ns.map .int)] } = true := by
   have h4 := (holds_andW hc).1
   rw [hn] at h4
   exact h4
  have h5 := condW_of h4 (w_not (w_lt w_lit (w_len_list (w_arg rfl))))
  rw [List.length_map] at h5
  refine Nat.le_of_not_lt fun q => ?_
  have q' : (n : Int) < ((ns.length : Nat) : Int) := by omega
  first
   | (rw [decide_eq_true q'] at h5; exact absurd h5 (by decide))
   | (simp at h5; omega)
 cases hwl with
 | cons w1 w2 =>
  cases w2
  cases w1 with
  | list ho hall => exact ⟨_, _, ns, rfl, rfl, ho, pY ns _ hall, hlen⟩
theorem Ai (l : OpenLaw) (args : List WData) : l.row.toRowW.claim.post args (.bool true) args = true :=
 postW_of (r := l.row.toRowW) (X := (true == true))
  (show WShape.has [] (.bool true) .bool = true by first | rfl | decide | simp [WShape.has, WShape.arms, WShape.armsAll])
  (show (WTm.eq .res (.lit (.bool true))).value [] { args := args, res := some (.bool true), after := args } = some (.bool (true == true)) from w_eq_bool (w_res rfl) w_lit) rfl
theorem attach_call {l : OpenLaw} {n : Nat} {q : Program} {loose : List Str} {XP : (Str → Option Value) → Heap → Prop} {YP : World → Heap → Prop} {d : DefRec}
  (hn : l.most = some n) (hdf : d.params.defaults = [])
  (call : ∀ (w : World) (s₀ s₁ : Shared) (mg mb : Str → Option Value) (fa : Addr) (o : Obj) (pm cd doc : Value) (a : Addr) (vs : List Value) (ns : List Int),
   Ground q loose [] XP w s₀ mg mb s₁.heap → YP w s₁.heap →
   s₁.heap.get? fa = some o → o.data = .func (docDef d.name d.params d.body d.scope pm cd doc) → s₁.heap.CodeRec cd d.name → mg d.name = some (.ref fa) →
   s₁.heap.get? a = some { cls := .type "list", data := .seq vs.toArray } → IntsAre vs ns → ns.length ≤ n → s₁.gens = #[] →
   codeAny (model l.prog w) callerA (.call (.ref fa) ⟨[.ref a], []⟩) (fun r s' => r = .ok (.ret (.bool true)) ∧ OldK s₁.heap s'.heap ∧ s'.os = s₁.os ∧ AllBare s'.gens) s₁) :
  WalkO q loose XP YP l.row.toRowW d [] (fun f vs => PySem.call f vs) := by
 intro w s₀ s₁ mg mb G Y fa o pm cd doc dV kV ho hd hcd hD hmg hg args vals as hpre hlay hrd hwl hlo
 obtain rfl : dV = .none := Dflts.none hD hdf
 obtain rfl : kV = .none := Dflts.noKw hD
 obtain ⟨a, vs, ns, rfl, rfl, hobj, hints, hlen⟩ := Bb hn hpre hwl
 refine enter_call (codeAny_mono (call w s₀ s₁ mg mb fa o pm cd doc a vs ns G Y ho (fd_plain hd) hcd hmg hobj hints hlen hg) fun r s' hq => ?_)
 obtain ⟨rfl, h2, h3, h4⟩ := hq
 exact ⟨.inl ⟨.bool true, .bool true, [], rfl, fun _ => rfl, .bool true, Ai l _, fun _ => ⟨List.Pairwise.nil, fun _ hm => (nomatch hm)⟩⟩, h2, h3, h4⟩
section
variable {prog : Program} {w : World} {A : Around} {E : Value → Shared → Prop} {s : Shared} {K : Frag}
end
end Att
namespace L2
open PySem PySem.Spec PyProof.Rows
theorem uq : ∀ {vs : List Value} {ns : List Int}, IntsAre vs ns → Vals (ns.map V.int) vs
 | _, _, .nil => .nil
 | _, _, .cons n t h => .cons ⟨t, rfl⟩ (uq h)
def Only (H : Hp) : Prop := ∀ b, H b = none ∨ ∃ o xs, H b = some (.frz o (.lst xs))
theorem Cd {P : Program} {w : World} {K : PySem.W.Frag} {mg mb : Str → Option Value} {CX : CXT} {k : Nat} {fa a : Addr} {fd : FuncData} {x : Str} {sp : Sp} {s₁ : Shared} {vs : List Value} {ns : List Int}
  (KX : K.In s₁.heap) (hns : s₁.heap.Ns mainGlobals mg) (hb : s₁.heap.Ns builtinsNs mb) (hbb : ∀ x : Str, x ≠ "__name__" → mb x = bootBuiltins x) (hlim : s₁.heap.NoLimit) (hg : s₁.gens = #[])
  (ha : s₁.heap.get? a = some { cls := .type "list", data := .seq vs.toArray }) (hi : IntsAre vs ns) (hl : ns.length ≤ sizeLine) (hr : aR k callerA)
  (F : ∀ base : Heap, K.In base → base.Ns mainGlobals mg → aK P w K mg base CX k fa fd [x] sp) (hbind : ∀ (s : Shared) (u : Value), BindsTo s fd ⟨[u], []⟩ [(x, u)])
  (hsp : ∀ H : Hp, Only H → SqL K H a (ns.map V.int) → sp [.ref a] H (fun v _ => v = .bl true) fun _ _ _ => False)
  (hCX : ∀ H e s', CX [] H s₁ (fun _ _ _ => False) e s' → False) :
  codeAny (model P w) callerA (.call (.ref fa) ⟨[.ref a], []⟩) (fun r s' => r = .ok (.ret (.bool true)) ∧ OldK s₁.heap s'.heap ∧ s'.os = s₁.os ∧ AllBare s'.gens) s₁ := by
 have rv := uq hi
 have lenV := hi.length
 have core : ∀ H : Hp, Only H → SqL K H a (ns.map V.int) → HOk P w H s₁.heap → (∀ b, H b ≠ none → b = a) → (H a ≠ none → K.lookup a = none) →
   codeAny (model P w) callerA (.call (.ref fa) ⟨[.ref a], []⟩) (fun r s' => r = .ok (.ret (.bool true)) ∧ OldK s₁.heap s'.heap ∧ s'.os = s₁.os ∧ AllBare s'.gens) s₁ := by
  intro H hO hS hok hA hK
  have base_of : ∀ {b : Addr} {o : Obj}, s₁.heap.get? b = some o → H b = none → (uE s₁.heap H).get? b = some o := fun e n => Cq e n
  have noA : ∀ {b : Addr} {o : Obj} {es : Array DictEntry} {ep : Nat}, s₁.heap.get? b = some o → o.data = .dict es ep → H b = none := fun {b o es ep} e d => by
   cases q : H b with
   | none => rfl
   | some u =>
    have e' : b = a := hA b (by rw [q]; simp)
    subst e'
    rw [ha] at e; cases e
    have d' : Data.seq vs.toArray _ = Data.dict es ep := d
    cases d'
  have nsK : ∀ {b : Addr} {m : Str → Option Value}, s₁.heap.Ns b m → (uE s₁.heap H).Ns b m := fun {b m} ⟨o, es, ep, e, d, r⟩ => ⟨o, es, ep, base_of e (noA e d), d, r⟩
  have hKb : K.In (uE s₁.heap H) := fun b o e => base_of (KX b o e) (by
   cases q : H b with
   | none => rfl
   | some u =>
    have e' : b = a := hA b (by rw [q]; simp)
    subst e'
    rw [hK (by rw [q]; simp)] at e; cases e)
  have hM : Mod K mg (uE s₁.heap H) := ⟨hKb, nsK hns, ⟨mb, nsK hb, hbb⟩, let ⟨mc, h1, h2⟩ := hlim; ⟨mc, nsK h1, h2⟩⟩
  have e0 : yp P w K mg (uE s₁.heap H) callerA [] s₁ H := ⟨rfl, hM, fun b o e => Et e, Nat.le_of_eq (zN _ _), trivial, fun b hb => absurd (show b ∈ ([] : List Addr) from hb) (by simp), hok, .of_eq hg⟩
  refine codeAny_mono ((F _ hKb (nsK hns)).run callerA [] s₁ H ⟨[.ref a], []⟩ [.ref a] [.ref a] _ _ hr e0 (hbind s₁ (.ref a)) (.cons rfl .nil) (hsp H hO hS)) fun r s' h => ?_
  cases r with
  | error e => exact (hCX H e s' h).elim
  | ok fl =>
   cases fl with
   | next => exact False.elim h
   | brk => exact False.elim h
   | cont => exact False.elim h
   | ret u =>
    obtain ⟨v, H', os, bare, un, hok', r', q⟩ := h
    have q' : v = .bl true := q
    subst q'
    obtain rfl : u = Value.bool true := r'
    refine ⟨rfl, OldK.of_keep fun b o e => ?_, os, bare⟩
    cases q : H b with
    | none => exact un.keep b o e q (by intro z; exact absurd (show b ∈ ([] : List Addr) from z) (by simp)) (by simp)
    | some u =>
     rcases hO b with z | ⟨ob, xs, z⟩
     ·rw [q] at z; cases z
     ·have z2 := un.frzs b ob _ z
      obtain ⟨e1, _⟩ := hok b _ z
      obtain ⟨e2, _⟩ := hok' b _ z2
      rw [e] at e1; cases e1
      exact e2
 cases hk : K.lookup a with
 | some o =>
  have e := KX a o hk
  rw [ha] at e
  cases e
  refine core (fun _ => none) (fun _ => .inl rfl) (.inr ⟨_, vs.toArray, _, hk, rfl, rfl, rfl, by rw [List.size_toArray, lenV]; exact hl, by simpa using rv⟩) (fun b u z => by have z' : (none : Option HO) = some u := z; cases z') (fun b z => absurd rfl z) fun z => absurd rfl z
 | none =>
  refine core (fun b => if b = a then some (.frz { cls := .type "list", data := .seq vs.toArray } (.lst (ns.map V.int))) else none) (fun b => ?_) (.inl (.inr ⟨{ cls := .type "list", data := .seq vs.toArray }, if_pos rfl⟩)) (fun b u z => ?_) (fun b z => ?_) fun _ => hk
  ·by_cases hb : b = a
   ·exact .inr ⟨_, _, if_pos hb⟩
   ·exact .inl (if_neg hb)
  ·by_cases hb : b = a
   ·have z' := (if_pos hb).symm.trans z
    cases z'
    subst hb
    exact ⟨ha, by rw [List.length_map]; exact hl, vs, _, rv, ha⟩
   ·have z' := (if_neg hb).symm.trans z
    cases z'
  ·by_cases hb : b = a
   ·exact hb
   ·exact absurd (if_neg hb) z
theorem Em {l : PySem.W.OpenLaw} {n k : Nat} {q : Program} {loose : List Str} {XP : (Str → Option Value) → Heap → Prop} {YP : World → Heap → Prop} {d : DefRec} {K : Params → PySem.W.Frag} {CX : World → CXT} {sp : World → Sp} {x : Str}
  (hn : l.most = some n) (hn2 : n ≤ sizeLine) (hdf : d.params.defaults = []) (hr : aR k callerA)
  (hY : ∀ (w : World) (h : Heap), YP w h → (K w.params).In h)
  (F : ∀ (w : World) (mg : Str → Option Value) (fa : Addr) (h : Heap), (K w.params).In h → h.Ns mainGlobals mg → mg d.name = some (.ref fa) →
   ∃ fd : FuncData, (∀ (s : Shared) (u : Value), BindsTo s fd ⟨[u], []⟩ [(x, u)]) ∧
    ∀ base : Heap, (K w.params).In base → base.Ns mainGlobals mg → aK l.prog w (K w.params) mg base (CX w) k fa fd [x] (sp w))
  (hsp : ∀ (w : World) (H : Hp) (a : Addr) (ns : List Int), ns.length ≤ n → Only H → SqL (K w.params) H a (ns.map V.int) → sp w [.ref a] H (fun v _ => v = .bl true) fun _ _ _ => False)
  (hCX : ∀ (w : World) (H : Hp) (s : Shared) (e : Value) (s' : Shared), CX w [] H s (fun _ _ _ => False) e s' → False) :
  PySem.W.WalkO q loose XP YP l.row.toRowW d [] (fun f vs => PySem.call f vs) := by
 refine Att.attach_call hn hdf fun w s₀ s₁ mg mb fa o pm cd doc a vs ns G Y ho hd hcd hmg hobj hints hlen hg => ?_
 have KX := hY w _ Y
 obtain ⟨fd, hb, hF⟩ := F w mg fa _ KX G.T.g hmg
 exact Cd KX G.T.g G.T.b G.T.builtins G.T.nolimit hg hobj hints (Nat.le_trans hlen hn2) hr hF hb (fun H hO hS => hsp w H a ns hlen hO hS) fun H e s' => hCX w H s₁ e s'
def cG (s : Stmt) : Arguments := match s with
 | .FunctionDef _ a _ _ _ _ _ _ _ _ => a
 | _ => { posonlyargs := [], args := [], vararg := none, kwonlyargs := [], kw_defaults := [], kwarg := none, defaults := [] }
def bJ (s : Stmt) : List Stmt := match s with
 | .FunctionDef _ _ b _ _ _ _ _ _ _ => b
 | _ => []
def aD (s : Stmt) : Scope := match s with
 | .FunctionDef _ _ _ _ _ _ sc _ _ _ => sc
 | _ => { kind := .function, names := [], isGenerator := false, isCoroutine := false }
abbrev CX0 : CXT := fun _ _ _ _ _ _ => False
abbrev E0 : XK := fun _ _ _ => False
theorem pK {X : Cx} : jl CX0 X E0 := fun _ _ _ _ _ _ _ h => h.elim
structure Fun (K : PySem.W.Frag) (x qual : Str) (st : Stmt) (f : Addr) (fd : FuncData) : Prop where
 ex : ∃ (oc : Value) (od : Option Addr) (kV doc pm : Value) (an : Option Addr) (cdv ct : Value) (osl : Array (Option Value)),
  fd = PySem.W.fnOf x qual (cG st) (bJ st) (aD st) .none kV doc pm an cdv ct ∧ K.lookup f = some ⟨oc, od, .func fd, osl⟩ ∧ PySem.W.codeIn K cdv qual = true
 kp : PySem.W.keepIn K (.ref f) = true
section
variable {P : Program} {w : World} {K : PySem.W.Frag} {mg : Str → Option Value} {base : Heap}
theorem Fun.ok {x qual : Str} {st : Stmt} {f : Addr} {fd : FuncData} {N ps : List Str} {k : Nat} {sp : Sp} (F : Fun K x qual st f fd) (S : aH N ps (aD st)) (len : ∀ vs H Q E, sp vs H Q E → vs.length = ps.length)
  (hbody : ∀ (cdv : Value) (A : Around) (outer : List Env) (s : Shared) (H : Hp) (vs : List V) (Q : VK) (E : XK), aR k (A.deeper (envOfC qual (aD st) s.heap.objs.size f cdv)) → sp vs H Q E →
   ∃ t, PSs (mV CX0 P w K mg base N qual (aD st) f cdv A outer s H E).nox (bJ st) t ∧ t { nx := fun _ H' => Q .non H', rt := Q } (start N vs) H) : aK P w K mg base CX0 (k + 1) f fd ps sp := by
 obtain ⟨oc, od, kV, doc, pm, an, cdv, ct, osl, rfl, lk, hcd⟩ := F.ex
 refine GD lk hcd S len fun A outer s H vs Q E hr hsp => ?_
 obtain ⟨t, h, q⟩ := hbody cdv A outer s H vs Q E hr hsp
 exact ⟨t, h.nox, q⟩
theorem Fun.binds {x qual : Str} {st : Stmt} {f : Addr} {fd : FuncData} {ps : List Str} (F : Fun K x qual st f fd)
  (h : ∀ (kV doc pm : Value) (an : Option Addr) (cdv ct : Value) (us : List Value), us.length = ps.length → bindArgs (PySem.W.fnOf x qual (cG st) (bJ st) (aD st) .none kV doc pm an cdv ct) ⟨us, []⟩ = pure (ps.zip us)) : Binds K fd ps [] := by
 obtain ⟨oc, od, kV, doc, pm, an, cdv, ct, osl, rfl, lk, hcd⟩ := F.ex
 exact .all (h kV doc pm an cdv ct)
theorem Dc {x qual : Str} {st : Stmt} {f : Addr} {oc : Value} {od an : Option Addr} {osl : Array (Option Value)} {kV doc pm cdv ct : Value} (l : K.lookup f = some ⟨oc, od, .func (PySem.W.fnOf x qual (cG st) (bJ st) (aD st) .none kV doc pm an cdv ct), osl⟩)
  (c : PySem.W.codeIn K cdv qual = true) (k : PySem.W.keepIn K (.ref f) = true) : Fun K x qual st f (PySem.W.fnOf x qual (cG st) (bJ st) (aD st) .none kV doc pm an cdv ct) := ⟨⟨oc, od, kV, doc, pm, an, cdv, ct, osl, rfl, l, c⟩, k⟩
end
section
variable {X : Cx}
theorem pv (i : Nat) {x : Str} {pos : Pos} (hN : X.N[i]? = some x := by rfl) (hv : Vis X.env.scope x := by first | exact Or.inl rfl | exact Or.inr (Or.inl rfl) | exact Or.inr (Or.inr rfl)) (hd : (x == ("__debug__" : Str)) = false := by decide)
  (hcd : (x == ("__classdict__" : Str)) = false := by decide) : PE X (.Name x pos) (Je i) := Ip hN hv hd hcd
end
theorem jy {A B : Prop} (h : B) : if false = true then A else B := by
 rw [if_neg Bool.false_ne_true]
 exact h
theorem De {A B : Prop} (h : A) : if true = true then A else B := by
 rw [if_pos rfl]
 exact h
def az (H H' : Hp) : Prop := ∀ b o, H b = some o → H' b = some o
theorem az.refl (H : Hp) : az H H := fun _ _ h => h
theorem az.trans {H H1 H2 : Hp} (a : az H H1) (b : az H1 H2) : az H H2 := fun c o h => b c o (a c o h)
theorem az.free {H H' : Hp} (e : az H H') {l : Addr} (h : H' l = Option.none) : H l = Option.none := by
 cases q : H l with
 | none => rfl
 | some o =>
  rw [e l o q] at h
  cases h
theorem az.seq {K : PySem.W.Frag} {H H' : Hp} {a : Addr} {xs : List V} (e : az H H') (h : SqL K H a xs) : SqL K H' a xs := by
 rcases h with (h | ⟨o, h⟩) | h
 ·exact .inl (.inl (e _ _ h))
 ·exact .inl (.inr ⟨o, e _ _ h⟩)
 ·exact .inr h
section
variable {κ : Type} [DecidableEq κ]
def gq (kvs : List (κ × V)) (k : κ) : Option V := (kvs.find? fun kv => decide (kv.1 = k)).map (·.2)
def putK (kvs : List (κ × V)) (k : κ) (v : V) : List (κ × V) :=
 if (kvs.any fun kv => decide (kv.1 = k)) = true then kvs.map (fun kv => if kv.1 = k then (kv.1, v) else kv) else kvs ++ [(k, v)]
theorem cZ {p : κ × V} {r : List (κ × V)} {k : κ} (e : p.1 = k) : gq (p :: r) k = some p.2 := by simp [gq, List.find?_cons, e]
theorem c7 {p : κ × V} {r : List (κ × V)} {k : κ} (e : ¬ p.1 = k) : gq (p :: r) k = gq r k := by simp [gq, List.find?_cons, e]
theorem ig (k : κ) : ∀ kvs : List (κ × V), (kvs.any fun kv => decide (kv.1 = k)) = (gq kvs k).isSome
 | [] => rfl
 | p :: r => by
  rw [List.any_cons]
  by_cases e : p.1 = k
  ·simp only [cZ e, decide_eq_true e, Bool.true_or, Option.isSome_some]
  ·rw [c7 e, decide_eq_false e, Bool.false_or]; exact ig k r
theorem v9 (k j : κ) (y : V) : ∀ kvs : List (κ × V), gq (kvs.map fun kv => if kv.1 = k then (kv.1, y) else kv) j = (gq kvs j).map fun x => if j = k then y else x
 | [] => rfl
 | p :: r => by
  have ih := v9 k j y r
  rw [List.map_cons]
  by_cases h : p.1 = k
  ·rw [if_pos h]
   by_cases e : p.1 = j
   ·rw [cZ (p := (p.1, y)) e, cZ e, Option.map_some, if_pos (e.symm.trans h)]
   ·rw [c7 (p := (p.1, y)) e, c7 e, ih]
  ·rw [if_neg h]
   by_cases e : p.1 = j
   ·rw [cZ (p := p) e, cZ e, Option.map_some, if_neg (fun z => h (e.trans z))]
   ·rw [c7 (p := p) e, c7 e, ih]
theorem tZ (k j : κ) (y : V) : ∀ kvs : List (κ × V), gq kvs k = none → gq (kvs ++ [(k, y)]) j = if j = k then some y else gq kvs j
 | [], _ => by
  by_cases e : k = j
  ·rw [if_pos e.symm]; exact cZ (p := (k, y)) e
  ·rw [if_neg (fun z => e z.symm)]; exact c7 (p := (k, y)) e
 | p :: r, hn => by
  rw [List.cons_append]
  have hk : ¬ p.1 = k := fun z => by rw [cZ z] at hn; cases hn
  rw [c7 hk] at hn
  have ih := tZ k j y r hn
  by_cases e : p.1 = j
  ·rw [cZ e, cZ e, if_neg (fun z => hk (e.trans z))]
  ·rw [c7 e, c7 e, ih]
theorem nG (kvs : List (κ × V)) (k j : κ) (y : V) : gq (putK kvs k y) j = if j = k then some y else gq kvs j := by
 unfold putK
 by_cases a : (kvs.any fun kv => decide (kv.1 = k)) = true
 ·rw [if_pos a, v9]
  rw [ig] at a
  by_cases e : j = k
  ·obtain ⟨x, hx⟩ := Option.isSome_iff_exists.mp a
   rw [if_pos e, e, hx, Option.map_some, if_pos rfl]
  ·rw [if_neg e]
   cases gq kvs j with
   | none => rfl
   | some x => rw [Option.map_some, if_neg e]
 ·rw [if_neg a]
  refine tZ k j y kvs ?_
  rw [ig] at a
  cases q : gq kvs k with
  | none => rfl
  | some x => rw [q] at a; exact (a rfl).elim
theorem gn (kvs : List (κ × V)) (k : κ) (v : V) : (putK kvs k v).length ≤ kvs.length + 1 := by
 unfold putK
 split
 ·rw [List.length_map]; omega
 ·rw [List.length_append, List.length_cons, List.length_nil]; omega
theorem jr.isSome_eq {o : Option V} {u : Option Value} (r : jr o u) : o.isSome = u.isSome := by
 cases o with
 | none => cases u with
  | none => rfl
  | some _ => exact (show False from r).elim
 | some _ => cases u with
  | none => exact (show False from r).elim
  | some _ => rfl
theorem KV.val {kvs : List (κ × V)} {vs : List (κ × Value)} (r : KV kvs vs) (k : κ) : jr (gq kvs k) (valueAt vs k) := by
 unfold KV at r
 induction r with
 | nil => exact True.intro
 | @cons p q ps qs h t ih =>
  obtain ⟨h1, h2⟩ := h
  by_cases e : p.1 = k
  ·have e' : q.1 = k := h1.symm.trans e
   have b : valueAt (q :: qs) k = some q.2 := by simp [valueAt, List.find?_cons, e']
   rw [cZ e, b]; exact h2
  ·have e' : ¬ q.1 = k := fun z => e (h1.trans z)
   have b : valueAt (q :: qs) k = valueAt qs k := by simp [valueAt, List.find?_cons, e']
   rw [c7 e, b]; exact ih
theorem KV.any {kvs : List (κ × V)} {vs : List (κ × Value)} (r : KV kvs vs) (k : κ) : (kvs.any fun kv => decide (kv.1 = k)) = vs.any fun kv => decide (kv.1 = k) := by
 unfold KV at r
 induction r with
 | nil => rfl
 | cons h t ih => rw [List.any_cons, List.any_cons, ih, h.1]
theorem KV.repl {kvs : List (κ × V)} {vs : List (κ × Value)} (r : KV kvs vs) (k : κ) {y : V} {u : Value} (ry : RelV y u) :
  KV (kvs.map fun kv => if kv.1 = k then (kv.1, y) else kv) (vs.map fun kv => if kv.1 = k then (kv.1, u) else kv) := by
 unfold KV at r ⊢
 induction r with
 | nil => exact .nil
 | @cons p q ps qs h t ih =>
  rw [List.map_cons, List.map_cons]
  refine .cons ?_ ih
  obtain ⟨h1, h2⟩ := h
  by_cases e : p.1 = k
  ·rw [if_pos e, if_pos (h1.symm.trans e)]; exact ⟨h1, ry⟩
  ·rw [if_neg e, if_neg (fun z => e (h1.trans z))]; exact ⟨h1, h2⟩
theorem KV.put {kvs : List (κ × V)} {vs : List (κ × Value)} (r : KV kvs vs) (k : κ) {y : V} {u : Value} (ry : RelV y u) : KV (putK kvs k y) (stored vs k u) := by
 unfold putK stored
 rw [r.any k]
 by_cases e : (vs.any fun kv => decide (kv.1 = k)) = true
 ·rw [if_pos e, if_pos e]; exact r.repl k ry
 ·rw [if_neg e, if_neg e]; exact Paired.snoc r ⟨rfl, ry⟩
theorem KV.length {kvs : List (κ × V)} {vs : List (κ × Value)} (r : KV kvs vs) : kvs.length = vs.length := Paired.length r
end
theorem wC {P : Program} {w : World} {k : Key} {u : Value} (r : RelV (kV k) u) : (bN P w).is k u = true := by
 cases k with
 | inl i => obtain ⟨t, e⟩ := (show ∃ t, u = Value.int i t from r); subst e; exact vX P w i t
 | inr x => obtain ⟨t, e⟩ := (show ∃ t, u = Value.str x t from r); subst e; exact wz P w x t
theorem uo {P : Program} {w : World} : ∀ {ks : List Key} {us : List Value}, Vals (ks.map kV) us → ItemsAre (bN P w) ks us
 | [], _, r => by rw [List.map_nil] at r; cases r; exact .nil
 | k :: ks, _, r => by
  rw [List.map_cons] at r
  cases r with
  | cons h t => exact .cons (wC h) (uo t)
abbrev KT (H : Hp) : List (List Key × V) → List (List Key × Addr × Value) → Prop := Paired fun p q => p.1 = q.1 ∧ H q.2.1 = some (.tup (p.1.map kV)) ∧ RelV p.2 q.2.2
theorem KT.val {H : Hp} {kvs : List (List Key × V)} {xs : List (List Key × Addr × Value)} (r : KT H kvs xs) (k : List Key) : jr (gq kvs k) ((atKey xs k).map (·.2)) := by
 induction r with
 | nil => exact True.intro
 | @cons p q ps qs h t ih =>
  obtain ⟨h1, _, h2⟩ := h
  by_cases e : p.1 = k
  ·have e' : q.1 = k := h1.symm.trans e
   have b : atKey (q :: qs) k = some q.2 := by simp [atKey, List.find?_cons, e']
   rw [cZ e, b]; exact h2
  ·have e' : ¬ q.1 = k := fun z => e (h1.trans z)
   have b : atKey (q :: qs) k = atKey qs k := by simp [atKey, List.find?_cons, e']
   rw [c7 e, b]; exact ih
theorem KT.repl {H : Hp} {kvs : List (List Key × V)} {xs : List (List Key × Addr × Value)} (r : KT H kvs xs) (k : List Key) {y : V} {u : Value} (ry : RelV y u) :
  KT H (kvs.map fun kv => if kv.1 = k then (kv.1, y) else kv) (xs.map (putAt k u)) := by
 induction r with
 | nil => exact .nil
 | @cons p q ps qs h t ih =>
  rw [List.map_cons, List.map_cons]
  refine .cons ?_ ih
  obtain ⟨h1, h2, h3⟩ := h
  unfold putAt
  by_cases e : p.1 = k
  ·rw [if_pos e, if_pos (h1.symm.trans e)]; exact ⟨h1, h2, ry⟩
  ·rw [if_neg e, if_neg (fun z => e (h1.trans z))]; exact ⟨h1, h2, h3⟩
theorem KT.put {H : Hp} {kvs : List (List Key × V)} {xs : List (List Key × Addr × Value)} (r : KT H kvs xs) (k : List Key) {b : Addr} {y : V} {u : Value} (hb : H b = some (.tup (k.map kV))) (ry : RelV y u) :
  KT H (putK kvs k y) (storedH xs k b u) := by
 have e : (kvs.any fun kv => decide (kv.1 = k)) = (atKey xs k).isSome := by
  rw [ig, (r.val k).isSome_eq, Option.isSome_map]
 unfold putK storedH
 rw [e]
 by_cases q : (atKey xs k).isSome = true
 ·rw [if_pos q, if_pos q]; exact r.repl k ry
 ·rw [if_neg q, if_neg q]; exact Paired.snoc r ⟨rfl, hb, ry⟩
theorem KT.keeps {H H' : Hp} {kvs : List (List Key × V)} {xs : List (List Key × Addr × Value)} (r : KT H kvs xs) (ht : ∀ b ys, H b = some (.tup ys) → H' b = some (.tup ys)) : KT H' kvs xs :=
 Paired.mapP r fun _ _ z => ⟨z.1, ht _ _ z.2.1, z.2.2⟩
section
variable {P : Program} {w : World} {H : Hp} {h : Heap} {a : Addr}
theorem GP {u : HO} (ok : HOk P w H h) (e : Rd H a u) : bI P w H h a u := e.ok ok
theorem zm {kvs : List (Key × V)} (ok : HOk P w H h) (e : Rd H a (.dK kvs)) : kvs.length ≤ sizeLine ∧ (a == sysModules) = false ∧ ∃ vs, KV kvs vs ∧ h.DictOf (bN P w) a vs :=
 show bI P w H h a (.dK kvs) from GP ok e
theorem Bv {kvs : List (Key × V)} (ok : HOk P w H h) (e : H a = some (.dK kvs)) : kvs.length ≤ sizeLine ∧ (a == sysModules) = false ∧ ∃ vs, KV kvs vs ∧ h.DictOf (bN P w) a vs := zm ok (.inl e)
theorem uG {ks : List Key} (ok : HOk P w H h) (e : H a = some (.tup (ks.map kV))) : (tupleKind (bN P w)).is h ks a := by
 obtain ⟨_, its, r, o, h1, h2, n, h3⟩ := (show bI P w H h a (.tup (ks.map kV)) from ok a _ e)
 exact ⟨o, its.toArray, n, h1, h2, h3, by simpa using uo r⟩
theorem zG {kvs : List (List Key × V)} (ok : HOk P w H h) (e : Rd H a (.dT kvs)) : kvs.length ≤ sizeLine ∧ (a == sysModules) = false ∧
  ∃ xs, KT H kvs xs ∧ h.DictOfH (tupleKind (bN P w)) a xs := by
 obtain ⟨z, y, xs, r, o, es, ep, h1, h2, h3, h4, h5⟩ := (show bI P w H h a (.dT kvs) from GP ok e)
 refine ⟨z, y, xs, r, o, es, ep, h1, h2, h3, h4, fun x hx => ?_, h5⟩
 have all : ∀ {l : List (List Key × V)} {m : List (List Key × Addr × Value)}, KT H l m → ∀ x ∈ m, (tupleKind (bN P w)).is h x.1 x.2.1 := by
  intro l m q
  induction q with
  | nil => intro x hx; exact nomatch hx
  | @cons p q ps qs hq t ih =>
   intro x hx
   rcases List.mem_cons.mp hx with e | hx
   ·subst e
    exact uG ok (by rw [← hq.1]; exact hq.2.1)
   ·exact ih x hx
 exact all r x hx
theorem PX {kvs : List (List Key × V)} (ok : HOk P w H h) (e : H a = some (.dT kvs)) : kvs.length ≤ sizeLine ∧ (a == sysModules) = false ∧
  ∃ xs, KT H kvs xs ∧ h.DictOfH (tupleKind (bN P w)) a xs := zG ok (.inl e)
end
def lD (H : Hp) (a : Addr) (y : V) (r : Option V) : Prop :=
 (∃ kvs k, Rd H a (.dK kvs) ∧ y = kV k ∧ r = gq kvs k) ∨ ∃ kvs k b, Rd H a (.dT kvs) ∧ y = .ref b ∧ H b = some (.tup (k.map kV)) ∧ r = gq kvs k
def nJ (H : Hp) (a : Addr) (y v : V) (H' : Hp) : Prop :=
 (∃ kvs k, H a = some (.dK kvs) ∧ y = kV k ∧ kvs.length < sizeLine ∧ H' = upd H a (.dK (putK kvs k v))) ∨
 ∃ kvs k b, H a = some (.dT kvs) ∧ y = .ref b ∧ H b = some (.tup (k.map kV)) ∧ kvs.length < sizeLine ∧ H' = upd H a (.dT (putK kvs k v))
theorem lD.k {H : Hp} {a : Addr} {kvs : List (Key × V)} {k : Key} (e : H a = some (.dK kvs)) : lD H a (kV k) (gq kvs k) := .inl ⟨kvs, k, .inl e, rfl, rfl⟩
theorem lD.t {H : Hp} {a b : Addr} {kvs : List (List Key × V)} {k : List Key} (e : H a = some (.dT kvs)) (eb : H b = some (.tup (k.map kV))) : lD H a (.ref b) (gq kvs k) := .inr ⟨kvs, k, b, .inl e, rfl, eb, rfl⟩
theorem nJ.k {H : Hp} {a : Addr} {kvs : List (Key × V)} {k : Key} {v : V} (e : H a = some (.dK kvs)) (hl : kvs.length < sizeLine) : nJ H a (kV k) v (upd H a (.dK (putK kvs k v))) := .inl ⟨kvs, k, e, rfl, hl, rfl⟩
theorem nJ.t {H : Hp} {a b : Addr} {kvs : List (List Key × V)} {k : List Key} {v : V} (e : H a = some (.dT kvs)) (eb : H b = some (.tup (k.map kV))) (hl : kvs.length < sizeLine) :
  nJ H a (.ref b) v (upd H a (.dT (putK kvs k v))) := .inr ⟨kvs, k, b, e, rfl, eb, hl, rfl⟩
section
variable {X : Cx} {pins : List (Addr × Obj)} {σ : St} {H : Hp} {s : Shared} {a : Addr} {y v : V} {u r : Value} {o : Option V} {A : Around} {E : Value → Shared → Prop}
theorem Inv.big (I : Inv X pins σ H s) : sysModules < s.heap.objs.size := by
 have h : mainGlobals < s.heap.objs.size := (I.mod.glob.keeps I.bk).lt
 exact Nat.lt_trans (by decide) h
theorem Ad {Q : Value → Shared → Prop} (hu : A.units + 1 < cLine) (I : Inv X pins σ H s) (g : lD H a y (some v)) (ry : RelV y u) (h : ∀ w' s', Inv X pins σ H s' → RelV v w' → Q w' s') :
  wpAny (model X.prog X.w) A (getItem (.ref a) u) Q E s := by
 rcases g with ⟨kvs, k, e, ey, l⟩ | ⟨kvs, k, b, e, ey, eb, l⟩
 ·subst ey
  obtain ⟨z, hd, vs, rel, dd⟩ := zm I.hok e
  obtain ⟨w', hw, rw'⟩ := jr.some_of (v := v) (o := valueAt vs k) (by rw [l]; exact rel.val k)
  exact wpAny_getItem_of (wC ry) dd.mapOf hw (h w' _ (I.tok _) rw')
 ·subst ey
  cases (show u = Value.ref b from ry)
  obtain ⟨z, hd, xs, rel, dd⟩ := zG I.hok e
  obtain ⟨w', hw, rw'⟩ := jr.some_of (v := v) (o := (atKey xs k).map (·.2)) (by rw [l]; exact rel.val k)
  obtain ⟨p, hp, hp2⟩ := Option.map_eq_some_iff.mp hw
  refine wpAny_getItem_heap (tupleKind_room_in1 hu) (uG I.hok eb) dd hp ?_
  rw [hp2]
  exact h w' _ (I.tok _) rw'
theorem Fb {Q : Value → Shared → Prop} (hu : A.units + 1 < cLine) (I : Inv X pins σ H s) (g : lD H a y o) (ry : RelV y u) (h : ∀ s', Inv X pins σ H s' → Q (.bool (!o.isSome)) s') :
  wpAny (model X.prog X.w) A (compareOp .NotIn u (.ref a)) Q E s := by
 rcases g with ⟨kvs, k, e, ey, l⟩ | ⟨kvs, k, b, e, ey, eb, l⟩
 ·subst ey
  obtain ⟨z, hd, vs, rel, dd⟩ := zm I.hok e
  refine wpAny_notIn_of (wC ry) hd dd.mapOf ?_
  rw [← (rel.val k).isSome_eq, ← l]
  exact h _ (I.tok _)
 ·subst ey
  cases (show u = Value.ref b from ry)
  obtain ⟨z, hd, xs, rel, dd⟩ := zG I.hok e
  refine wpAny_notIn_heap (tupleKind_room_in1 hu) (uG I.hok eb) hd dd ?_
  have q := (rel.val k).isSome_eq
  rw [Option.isSome_map] at q
  rw [← q, ← l]
  exact h _ (I.tok _)
theorem vq {h' : Heap} {t' : Nat} {ob : HO} (I : Inv X pins σ H s) (mu : Mut (H a)) (hs : Heap.SameBut a s.heap h') (he : ∃ q, h'.get? a = some q) (new : bI X.prog X.w (upd H a ob) h' a ob) :
  Inv X pins σ (upd H a ob) { s with heap := h', toks := t' } :=
 I.write (x := a) (e := a) mu (.inl rfl) (fun b q hb z => (hs.2 b hb).trans z) he new
theorem Ce {P : Program} {w : World} {H' : Hp} {h' : Heap} {kvs : List (Key × V)} {vs : List (Key × Value)} (z : kvs.length ≤ sizeLine) (hd : (a == sysModules) = false) (rel : KV kvs vs) (dd : h'.DictOf (bN P w) a vs) :
  bI P w H' h' a (.dK kvs) := ⟨z, hd, vs, rel, dd⟩
theorem Aw {H' : Hp} {Q : Unit → Shared → Prop} (hu : A.units + 1 < cLine) (I : Inv X pins σ H s) (g : nJ H a y v H') (ry : RelV y u) (rv : RelV v r) (h : ∀ s', Inv X pins σ H' s' → Q () s') :
  wpAny (model X.prog X.w) A (setItem (.ref a) u r) Q E s := by
 rcases g with ⟨kvs, k, e, ey, l, eH⟩ | ⟨kvs, k, b, e, ey, eb, l, eH⟩
 ·subst ey eH
  obtain ⟨z, hd, vs, rel, dd⟩ := Bv I.hok e
  have hz : vs.length ≤ sizeLine := by rw [← rel.length]; exact z
  have hl : (putK kvs k v).length ≤ sizeLine := by have := gn kvs k v; omega
  refine wpAny_setItem_pairs (hsz := hz) (wC ry) dd fun h' dd' hs => h _ ?_
  have he : ∃ q, h'.get? a = some q := let ⟨q, _, _, hq, _⟩ := dd'; ⟨q, hq⟩
  exact vq I (by rw [e]; exact True.intro) hs he (Ce hl hd (rel.put k rv) dd')
 ·subst ey eH
  cases (show u = Value.ref b from ry)
  obtain ⟨z, hd, xs, rel, dd⟩ := PX I.hok e
  have hz : xs.length ≤ sizeLine := by rw [← Paired.length rel]; exact z
  have hl : (putK kvs k v).length ≤ sizeLine := by have := gn kvs k v; omega
  refine wpAny_setItem_heap (hsz := hz) (tupleKind_room_in1 hu) (uG I.hok eb) dd fun h' dd' hs => h _ ?_
  obtain ⟨q, es, ep, hq, h2, h3, h4, _, h5⟩ := dd'
  refine vq I (by rw [e]; exact True.intro) hs ⟨q, hq⟩ ⟨hl, hd, _, (rel.put k eb rv).keeps fun c ys ec => ?_, q, es, ep, hq, h2, h3, h4, h5⟩
  rw [aG (eX ec e (fun z => nomatch z))]
  exact ec
end
section
variable {X : Cx} {pins : List (Addr × Obj)} {σ : St} {H : Hp} {s : Shared} {a : Addr} {kvs : List (Key × V)} {k : Key} {u : Value} {A : Around} {E : Value → Shared → Prop}
end
def RP (i : Expr) : Prop := ∀ ov iv, subscripted i false ov iv = operate [ov, iv] (getItem ov iv)
theorem Fz {prog : Program} {w : World} {A : Around} {E : Value → Shared → Prop} {s : Shared} {env : Env} {value slice : Expr} {pos : Pos} {T id : String} {Q : Value → Shared → Prop}
  (hl : typeLookup (.type T) "__getitem__" = pure (some (.builtin id))) (hs : RP slice)
  (h : wpAny (model prog w) A (eval value env) (fun o s₁ => wpAny (model prog w) A (eval slice env) (fun i s₂ => s₂.TypeIs o T ∧ wpAny (model prog w) A (getItem o i) Q E s₂) E s₁) E s) :
  wpAny (model prog w) A (eval (.Subscript value slice pos) env) Q E s := by
 refine Subscript_ (wpAny_mono h (fun o s₁ h₁ => wpAny_mono h₁ (fun i s₂ h₂ => ?_) fun _ _ x => x) fun _ _ x => x)
 obtain ⟨hT, h₂⟩ := h₂
 unfold subscriptTail
 refine wpAny_bind ?_
 rw [getitemInPython_of_ne hT.not_modules]
 refine wpAny_bind (wpAny_specialOf hT hl ?_)
 have fin : wpAny (model prog w) A (subscripted slice false o i) (fun r s₃ => wpAny (model prog w) A (letTemporaryGo value o r >>= fun _ => pure r) Q E s₃) E s₂ := by
  rw [hs o i]
  exact wpAny_operating (wpAny_mono h₂ (fun r s₃ h₃ => wpAny_bind (wpAny_letTemporaryGo (wpAny_pure h₃))) fun _ _ x => x)
 first
  | exact wpAny_pure (wpAny_bind fin)
  | exact wpAny_bind (wpAny_pure (wpAny_bind fin))
  | exact wpAny_bind fin
theorem wH {X : Cx} {pins : List (Addr × Obj)} {σ : St} {H : Hp} {s : Shared} {a : Addr} {y : V} {o : Option V} (I : Inv X pins σ H s) (g : lD H a y o) : s.TypeIs (.ref a) "dict" := by
 rcases g with ⟨kvs, k, e, _, _⟩ | ⟨kvs, k, b, e, _, _, _⟩
 ·obtain ⟨_, _, vs, _, dd⟩ := zm I.hok e
  exact dd.typeIs
 ·obtain ⟨_, _, xs, _, dd⟩ := zG I.hok e
  exact dd.typeIs
def RN (td ty : TE) : TE := fun σ H Q => td σ H fun x H1 => ty σ H1 fun y H2 => ∃ a v, x = .ref a ∧ lD H2 a y (some v) ∧ Q v H2
def Gb (ty td : TE) : TE := fun σ H Q => ty σ H fun y H1 => td σ H1 fun x H2 => ∃ a o, x = .ref a ∧ lD H2 a y o ∧ Q (.bl (!o.isSome)) H2
def OD (td ty tv : TE) : TS := fun D σ H => tv σ H fun v H1 => td σ H1 fun x H2 => ty σ H2 fun y H3 => ∃ a H4, x = .ref a ∧ nJ H3 a y v H4 ∧ D.nx σ H4
section
variable {X : Cx} {o i e value : Expr} {pos pos' tpos : Pos} {td ty tv : TE}
theorem cV (hu : X.A.units + 1 < cLine) (ho : PE X o td) (hi : PE X i ty) (hs : RP i) : PE X (.Subscript o i pos) (RN td ty) := by
 intro pins s σ H Q I h
 refine Fz PySem.F.slot_dict_getitem.lookup hs (thn (ho pins s σ H _ I h) fun u s1 ⟨x, H1, I1, rx, q1⟩ => thn (hi pins s1 σ H1 _ I1 q1) fun iv s2 ⟨y, H2, I2, ry, a, v, ex, g, q2⟩ => ?_)
 subst ex
 obtain rfl : u = Value.ref a := rx
 exact ⟨wH I2 g, Ad hu I2 g ry fun w' s3 I3 rw' => ⟨v, H2, I3, rw', q2⟩⟩
theorem uv (hu : X.A.units + 1 < cLine) (hi : PE X i ty) (ho : PE X o td) : PC X .NotIn i o (Gb ty td) := by
 intro pins s σ H Q I h
 refine thn (hi pins s σ H _ I h) fun iv s1 ⟨y, H1, I1, ry, q1⟩ => thn (ho pins s1 σ H1 _ I1 q1) fun u s2 ⟨x, H2, I2, rx, a, ov, ex, g, q2⟩ => ?_
 subst ex
 obtain rfl : u = Value.ref a := rx
 exact Fb hu I2 g ry fun s3 I3 => ⟨.bl (!ov.isSome), H2, I3, rfl, q2⟩
theorem iG (hu : X.A.units + 1 < cLine) (ho : PE X o td) (hi : PE X i ty) (hv : PE X value tv) (hs : swapsWith value (some (.Subscript o i pos')) pos.line X.env = pure false) :
  PS X (.Assign [.Subscript o i pos'] value pos) (OD td ty tv) := by
 intro pins s σ H D I h
 refine wpAny_Assign_Subscript (thn (hv pins s σ H _ I h) fun r s1 ⟨v, H1, I1, rv, q1⟩ => thn (ho pins s1 σ H1 _ I1 q1) fun u s2 ⟨x, H2, I2, rx, q2⟩ => thn (hi pins s2 σ H2 _ I2 q2) fun iv s3 ⟨y, H3, I3, ry, a, H4, ex, g, q3⟩ => ?_) hs
 subst ex
 obtain rfl : u = Value.ref a := rx
 exact Aw hu I3 g ry rv fun s4 I4 => ⟨σ, H4, I4, q3⟩
end
theorem vY {P : Program} {w : World} {H : Hp} (h : Heap) (hb : sysModules < h.objs.size) : bI P w H (h.push { cls := .type "dict", data := .dict #[] }) h.objs.size (.dK []) :=
 ⟨Nat.zero_le _, beq_eq_false_iff_ne.mpr (Ne.symm (Nat.ne_of_lt hb)), [], .nil, Heap.DictOf.new h⟩
def Il : TE := fun _ H Q => ∀ p, H p = none → Q (.ref p) (upd H p (.dK []))
section
variable {X : Cx} {pos : Pos}
theorem jF : PE X (.Dict [] [] pos) Il := fun pins s σ H Q I h =>
 wpAny_Dict_empty ⟨.ref s.heap.objs.size, _, I.laid (a := s.heap.objs.size) (o := .dK []) (t' := s.toks) (fun _ _ q => Heap.get?_push_of_some _ q) (Nat.le_refl _) (vY s.heap I.big), rfl, h _ (I.hok.fresh (Nat.le_refl _))⟩
end
def xV : List (TE × TE) → St → Hp → (List (V × V) → Hp → Prop) → Prop
 | [], _, H, Q => Q [] H
 | (tk, tv) :: r, σ, H, Q => tk σ H fun x H1 => tv σ H1 fun y H2 => xV r σ H2 fun ps H3 => Q ((x, y) :: ps) H3
abbrev VV : List (V × V) → List (Value × Value) → Prop := Paired fun p q => RelV p.1 q.1 ∧ RelV p.2 q.2
def PPs (X : Cx) (pos : Pos) (keys : List (Option Expr)) (values : List Expr) (trs : List (TE × TE)) : Prop :=
 ∀ (pins : List (Addr × Obj)) (s : Shared) (σ : St) (H : Hp) (Q : List (V × V) → Hp → Prop), Inv X pins σ H s → xV trs σ H Q →
  wpAny (model X.prog X.w) X.A (evalPairs (pairTrees keys values X.env pos)) (fun vs s' => ∃ ps H', Inv X pins σ H' s' ∧ VV ps vs ∧ Q ps H') X.xe s
theorem FZ {X : Cx} {pos : Pos} : PPs X pos [] [] [] := fun pins s σ H Q I h => pairTrees_nil_walk ⟨[], H, I, .nil, h⟩
theorem DR {X : Cx} {pos : Pos} {k v : Expr} {ks : List (Option Expr)} {vs : List Expr} {tk tv : TE} {trs : List (TE × TE)} (hk : PE X k tk) (hv : PE X v tv) (hr : PPs X pos ks vs trs) :
  PPs X pos (some k :: ks) (v :: vs) ((tk, tv) :: trs) := fun pins s σ H Q I h =>
 pairTrees_cons_walk (thn (hk pins s σ H _ I h) fun u s1 ⟨x, H1, I1, rx, q1⟩ => thn (hv pins s1 σ H1 _ I1 q1) fun w2 s2 ⟨y, H2, I2, ry, q2⟩ =>
  thn (hr pins s2 σ H2 _ I2 q2) fun ws s3 ⟨ps, H3, I3, rel, q3⟩ => ⟨(x, y) :: ps, H3, I3, .cons ⟨rx, ry⟩ rel, q3⟩)
def lO (kvs more : List (Key × V)) : List (Key × V) := more.foldl (fun acc kv => putK acc kv.1 kv.2) kvs
theorem KV.merge : ∀ {more : List (Key × V)} {rs : List (Key × Value)} {kvs : List (Key × V)} {vs : List (Key × Value)}, KV more rs → KV kvs vs → KV (lO kvs more) (merged vs rs) := by
 intro more rs kvs vs r
 unfold KV at r
 induction r generalizing kvs vs with
 | nil => intro q; exact q
 | @cons p q ps qs h t ih =>
  intro r0
  have e : KV (putK kvs p.1 p.2) (stored vs q.1 q.2) := by
   have := r0.put p.1 h.2
   rw [← h.1]; exact this
  exact ih e
theorem mL : ∀ (more kvs : List (Key × V)), (lO kvs more).length ≤ kvs.length + more.length
 | [], kvs => by show kvs.length ≤ kvs.length + 0; omega
 | p :: r, kvs => by
  have h1 := mL r (putK kvs p.1 p.2)
  have h2 := gn kvs p.1 p.2
  show (lO (putK kvs p.1 p.2) r).length ≤ _
  rw [List.length_cons]; omega
theorem rY {P : Program} {w : World} : ∀ {kvs : List (Key × V)} {ws : List (Value × Value)}, VV (kvs.map fun kv => (kV kv.1, kv.2)) ws → ∃ rs, Carries (bN P w) ws rs ∧ KV kvs rs
 | [], _, r => by rw [List.map_nil] at r; cases r; exact ⟨[], True.intro, .nil⟩
 | p :: kvs, _, r => by
  rw [List.map_cons] at r
  cases r with
  | @cons a b as bs h t =>
   obtain ⟨rs, c, q⟩ := rY (P := P) (w := w) t
   obtain ⟨b1, b2⟩ := b
   exact ⟨(p.1, b2) :: rs, ⟨wC h.1, rfl, c⟩, .cons ⟨rfl, h.2⟩ q⟩
def Kg (trs : List (TE × TE)) : TE := fun σ H Q => ∀ p, H p = none → xV trs σ (upd H p (.dK [])) fun ps H2 => H2 p = some (.dK []) ∧ ∃ kvs : List (Key × V), ps = kvs.map (fun kv => (kV kv.1, kv.2)) ∧ kvs.length ≤ 15 ∧ Q (.ref p) (upd H2 p (.dK (lO [] kvs)))
theorem Ge {X : Cx} {pos : Pos} {keys : List (Option Expr)} {values : List Expr} {trs : List (TE × TE)} (h : PPs X pos keys values trs) (hall : keys.all (·.isSome) = true) (hl : keys.length = values.length) (h0 : keys ≠ [])
  (h15 : keys.length ≤ 15) : PE X (.Dict keys values pos) (Kg trs) := by
 intro pins s σ H Q I q
 have hn := I.hok.fresh (Nat.le_refl s.heap.objs.size)
 have I1 := I.laid (a := s.heap.objs.size) (o := .dK []) (h' := s.heap.push { cls := .type "dict", data := .dict #[] }) (t' := s.toks) (fun _ _ q => Heap.get?_push_of_some _ q) (Nat.le_refl _) (vY s.heap I.big)
 refine wpAny_Dict_walk (knd := bN X.prog X.w) hall hl h0 h15 (thn (h pins _ σ _ _ I1 (q _ hn)) fun ws s2 ⟨ps, H2, I2, rel, e, kvs, ep, lk, q2⟩ => ?_)
 subst ep
 obtain ⟨rs, c, rk⟩ := rY (P := X.prog) (w := X.w) rel
 obtain ⟨z, hd, vs0, r0, dd⟩ := Bv I2.hok e
 cases r0
 refine ⟨rs, c, dd, fun h' dd' hs => ⟨.ref s.heap.objs.size, _, ?_, rfl, q2⟩⟩
 have hz : (lO [] kvs).length ≤ sizeLine := by
  have h1 := mL kvs []
  rw [List.length_nil] at h1
  rw [sizeLine_eq]; omega
 have he : ∃ q, h'.get? s.heap.objs.size = some q := let ⟨q, _, _, hq, _⟩ := dd'; ⟨q, hq⟩
 exact vq I2 (by rw [e]; exact True.intro) hs he (Ce hz hd (rk.merge .nil) dd')
section
variable {X : Cx} {pins : List (Addr × Obj)} {σ : St} {H : Hp} {s : Shared} {a : Addr} {y d : V} {u r : Value} {o : Option V} {A : Around} {E : Value → Shared → Prop}
end
section
variable {X : Cx} {o e f : Expr} {apos cpos : Pos} {td ty tx : TE}
end
section
variable {X : Cx} {pins : List (Addr × Obj)} {σ : St} {H : Hp} {s : Shared} {a : Addr} {kvs : List (Key × V)} {A : Around} {E : Value → Shared → Prop}
end
section
variable {X : Cx} {pins : List (Addr × Obj)} {σ : St} {H : Hp} {s : Shared} {a : Addr} {y : V} {u : Value} {A : Around} {E : Value → Shared → Prop}
end
end L2
set_option maxHeartbeats 4000000
namespace Mine
open PySem PySem.Builtin PySem.Builtin.Str
theorem jU {a b : Str} (h : a.cps.toList = b.cps.toList) : a = b := by
 cases a; cases b
 exact congrArg Str.mk (Array.toList_inj.mp h)
theorem eZ (a : Str) : a.length = a.cps.toList.length := by simp [Str.length]
theorem cH (a b : Str) : (a ++ b).cps.toList = a.cps.toList ++ b.cps.toList := by
 show (a.cps ++ b.cps).toList = _
 simp
def inter (c : Nat) : List (List Nat) → List Nat
 | [] => []
 | [x] => x
 | x :: y :: r => x ++ c :: inter c (y :: r)
theorem jL (c : Nat) : ∀ ys : List Str, (Str.join ⟨#[c]⟩ ys).cps.toList = inter c (ys.map (·.cps.toList))
 | [] => by simp [Str.join, inter, Str.empty]
 | [x] => rfl
 | x :: y :: r => by
  have ih := jL c (y :: r)
  show ((x ++ (⟨#[c]⟩ : Str)) ++ Str.join ⟨#[c]⟩ (y :: r)).cps.toList = _
  rw [cH, cH, ih]
  simp [inter]
theorem lF : ∀ ys : List Str, (Str.join ⟨#[]⟩ ys).cps.toList = (ys.map (·.cps.toList)).flatten
 | [] => by simp [Str.join, Str.empty]
 | [x] => by simp [Str.join]
 | x :: y :: r => by
  have ih := lF (y :: r)
  show ((x ++ (⟨#[]⟩ : Str)) ++ Str.join ⟨#[]⟩ (y :: r)).cps.toList = _
  rw [cH, cH, ih]
  simp
theorem wY {c : Nat} : ∀ {x y R S : List Nat}, c ∉ x → c ∉ y → (R = [] ∨ ∃ r, R = c :: r) → (S = [] ∨ ∃ r, S = c :: r) → x ++ R = y ++ S → x = y ∧ R = S
 | [], [], R, S, _, _, _, _, h => ⟨rfl, h⟩
 | [], b :: y, R, S, _, hy, hR, _, h => by
  rcases hR with rfl | ⟨r, rfl⟩
  ·cases h
  ·have e : c = b := (List.cons.inj h).1
   exact absurd (by rw [← e]; exact List.mem_cons_self) hy
 | a :: x, [], R, S, hx, _, _, hS, h => by
  rcases hS with rfl | ⟨r, rfl⟩
  ·cases h
  ·have e : a = c := (List.cons.inj h).1
   exact absurd (by rw [e]; exact List.mem_cons_self) hx
 | a :: x, b :: y, R, S, hx, hy, hR, hS, h => by
  obtain ⟨e, h'⟩ := List.cons.inj h
  obtain ⟨e2, e3⟩ := wY (x := x) (y := y) (fun z => hx (List.mem_cons_of_mem _ z)) (fun z => hy (List.mem_cons_of_mem _ z)) hR hS h'
  exact ⟨by rw [e, e2], e3⟩
theorem mO (c : Nat) (x : List Nat) (r : List (List Nat)) : ∃ R, inter c (x :: r) = x ++ R ∧ (R = [] ∨ ∃ q, R = c :: q) ∧ (R = [] ↔ r = []) ∧ (∀ q, R = c :: q → q = inter c r) := by
 cases r with
 | nil => exact ⟨[], by simp [inter], .inl rfl, by simp, fun q h => nomatch h⟩
 | cons y r => exact ⟨c :: inter c (y :: r), rfl, .inr ⟨_, rfl⟩, by simp, fun q h => (List.cons.inj h).2.symm⟩
theorem ur {c : Nat} : ∀ {xs ys : List (List Nat)}, (∀ x ∈ xs, c ∉ x) → (∀ y ∈ ys, c ∉ y) → xs ≠ [] → ys ≠ [] → inter c xs = inter c ys → xs = ys
 | [], _, _, _, h, _, _ => absurd rfl h
 | _, [], _, _, _, h, _ => absurd rfl h
 | x :: xs, y :: ys, hx, hy, _, _, h => by
  obtain ⟨R, e1, f1, g1, q1⟩ := mO c x xs
  obtain ⟨S, e2, f2, g2, q2⟩ := mO c y ys
  rw [e1, e2] at h
  obtain ⟨a, b⟩ := wY (hx x List.mem_cons_self) (hy y List.mem_cons_self) f1 f2 h
  subst a; subst b
  cases xs with
  | nil =>
   have : ys = [] := g2.mp (g1.mpr rfl)
   rw [this]
  | cons x' xs' =>
   have hR : R ≠ [] := fun z => by cases g1.mp z
   have hys : ys ≠ [] := fun z => hR (g2.mpr z)
   rcases f1 with z | ⟨q, z⟩
   ·exact absurd z hR
   ·have i1 := q1 q z
    have i2 := q2 q z
    rw [ur (fun u hu => hx u (List.mem_cons_of_mem _ hu)) (fun u hu => hy u (List.mem_cons_of_mem _ hu)) (by simp) hys (i1.symm.trans i2)]
theorem mF : ∀ {xs ys : List Str}, xs.map (·.cps.toList) = ys.map (·.cps.toList) → xs = ys
 | [], [], _ => rfl
 | [], _ :: _, h => by cases h
 | _ :: _, [], h => by cases h
 | x :: xs, y :: ys, h => by
  obtain ⟨a, b⟩ := List.cons.inj h
  rw [jU a, mF b]
theorem Bc (x y : Str) : Txt.split x y ≠ [] := by
 unfold Txt.split
 split
 ·simp
 ·split
  ·simp
  ·intro h
   have := congrArg List.length h
   rw [length_partsBetween] at this
   simp at this
theorem yr (c : Nat) (ys : List Str) (h0 : ys ≠ []) (hf : ∀ y ∈ ys, c ∉ y.cps.toList) : Txt.split (Str.join ⟨#[c]⟩ ys) ⟨#[c]⟩ = ys := by
 refine mF (ur (c := c) ?_ ?_ ?_ ?_ ?_)
 ·intro x hx
  obtain ⟨z, hz, rfl⟩ := List.mem_map.mp hx
  exact StrLaws.split_free _ c z hz
 ·intro x hx
  obtain ⟨z, hz, rfl⟩ := List.mem_map.mp hx
  exact hf z hz
 ·intro h; exact Bc _ _ (List.map_eq_nil_iff.mp h)
 ·intro h; exact h0 (List.map_eq_nil_iff.mp h)
 ·rw [← jL, ← jL, StrLaws.join_split]
theorem rF (x : Str) (c i : Nat) : StrLaws.At x ⟨#[c]⟩ x.length i ↔ x.cps.toList[i]? = some c := by
 unfold StrLaws.At subAt
 have e1 : ((⟨#[c]⟩ : Str)).length = 1 := rfl
 rw [e1]
 constructor
 ·rintro ⟨h1, h2⟩
  have h3 : x.cps.extract i (i + 1) = #[c] := by simpa using h2
  have h4 := congrArg Array.toList h3
  rw [Array.toList_extract, List.extract_eq_take_drop] at h4
  have h5 : x.cps.toList[i]? = ((x.cps.toList.drop i).take (i + 1 - i))[0]? := by
   rw [List.getElem?_take, if_pos (by omega), List.getElem?_drop]; simp
  rw [h5, h4]; rfl
 ·intro h
  have hlt : i < x.cps.toList.length := (List.getElem?_eq_some_iff.mp h).1
  refine ⟨by rw [eZ]; omega, ?_⟩
  have : x.cps.extract i (i + 1) = #[c] := by
   apply Array.toList_inj.mp
   rw [Array.toList_extract, List.extract_eq_take_drop]
   have e : i + 1 - i = 1 := by omega
   rw [e, List.drop_eq_getElem_cons hlt]
   have : x.cps.toList[i] = c := (List.getElem?_eq_some_iff.mp h).2
   rw [this]; rfl
  rw [this]; simp
theorem Aq {x : Str} {c : Nat} (h : c ∉ x.cps.toList) : lastOccurrence x ⟨#[c]⟩ 0 x.length = none := by
 rcases StrLaws.last_spec x ⟨#[c]⟩ with ⟨e, _⟩ | ⟨i, _, hi, _⟩
 ·exact e
 ·exact absurd (List.mem_of_getElem? ((rF x c i).mp hi)) h
theorem zX {a b : Str} {c : Nat} (h : c ∉ b.cps.toList) : lastOccurrence (a ++ (⟨#[c]⟩ : Str) ++ b) ⟨#[c]⟩ 0 (a ++ (⟨#[c]⟩ : Str) ++ b).length = some a.length := by
 have hc : (a ++ (⟨#[c]⟩ : Str) ++ b).cps.toList = a.cps.toList ++ c :: b.cps.toList := by rw [cH, cH]; simp
 have here : (a ++ (⟨#[c]⟩ : Str) ++ b).cps.toList[a.length]? = some c := by
  rw [hc, eZ, List.getElem?_append_right (Nat.le_refl _)]; simp
 rcases StrLaws.last_spec (a ++ (⟨#[c]⟩ : Str) ++ b) ⟨#[c]⟩ with ⟨_, hn⟩ | ⟨i, e, hi, hn⟩
 ·exact absurd ((rF _ c _).mpr here) (hn _)
 ·rw [e]
  have hi' := (rF _ c i).mp hi
  have h1 : ¬ i < a.length := fun z => hn a.length z ((rF _ c _).mpr here)
  have h2 : ¬ a.length < i := fun z => by
   rw [hc, eZ] at *
   rw [List.getElem?_append_right (by omega)] at hi'
   obtain ⟨k, hk⟩ : ∃ k, i - a.cps.toList.length = k + 1 := ⟨i - a.cps.toList.length - 1, by omega⟩
   rw [hk] at hi'
   exact h (List.mem_of_getElem? (by simpa using hi'))
  congr 1
  omega
theorem CK (a b : Str) : strSub (a ++ b) 0 a.length = a := by
 apply jU
 unfold strSub
 show ((a ++ b).cps.extract 0 a.length).toList = _
 rw [Array.toList_extract, List.extract_eq_take_drop, cH, eZ]
 simp
theorem Bf (a b : Str) : strSub (a ++ b) a.length (a ++ b).length = b := by
 apply jU
 unfold strSub
 show ((a ++ b).cps.extract a.length (a ++ b).length).toList = _
 rw [Array.toList_extract, List.extract_eq_take_drop, cH, eZ, eZ, cH]
 simp
 exact List.take_of_length_le (by simp)
theorem join_snoc (s : Str) (b : Str) : ∀ xs : List Str, xs ≠ [] → Str.join s (xs ++ [b]) = Str.join s xs ++ s ++ b
 | [], h => absurd rfl h
 | [x], _ => rfl
 | x :: y :: r, _ => by
  have ih := join_snoc s b (y :: r) (by simp)
  show x ++ s ++ Str.join s (y :: r ++ [b]) = (x ++ s ++ Str.join s (y :: r)) ++ s ++ b
  rw [ih]
  apply jU
  simp only [cH, List.append_assoc]
def nR : List Int := [48271, 1000003, 15485863, 32452843, 49979687, 67867967, 86028121, 104395301]
def oR : List Int := [179424673, 373587883, 573259391, 776531401, 982451653]
def Gp (c k many : Int) : Int := Builtin.bitAnd (c / 2 ^ (1 + 10 * k).toNat) 1023 % many
def wD (c k : Int) : Int := (c / 2 % 2305843009213693951 + 1) * (nR.getD (k % 8).toNat 0 * oR.getD (k / 8).toNat 0) % 2305843009213693951
def vU (c k : Int) : Int := wD c k * wD c k % 1000000000039
def Cw (c k many : Int) : Int := (vU c k + k + 1) * (vU c k / 10007 + 48271) % 67280421310721 / 31 % many
def pick (c k many : Int) : Int := if c % 2 = 1 ∧ 0 < c / 2 ^ (400 : Int).toNat then Gp c k many else Cw c k many
theorem d9 (c k : Int) {m : Int} (h : 0 < m) : 0 ≤ pick c k m := by
 unfold pick; split
 ·exact Int.emod_nonneg _ (by omega)
 ·exact Int.emod_nonneg _ (by omega)
theorem fP (c k : Int) {m : Int} (h : 0 < m) : pick c k m < m := by
 unfold pick; split
 ·exact Int.emod_lt_of_pos _ h
 ·exact Int.emod_lt_of_pos _ h
theorem Ej (c k : Int) : 0 ≤ wD c k := Int.emod_nonneg _ (by decide)
theorem Fp (c k : Int) : wD c k < 2305843009213693951 := Int.emod_lt_of_pos _ (by decide)
theorem Gd (c k : Int) : 0 ≤ vU c k := Int.emod_nonneg _ (by decide)
theorem Fq (c k : Int) : vU c k < 1000000000039 := Int.emod_lt_of_pos _ (by decide)
theorem Fi {k : Int} (h0 : 0 ≤ k) (h1 : k < 8) : nR[k.toNat]? = some (nR.getD k.toNat 0) ∧ 0 < nR.getD k.toNat 0 ∧ nR.getD k.toNat 0 < 1000000000 := by
 have : ∀ n : Fin 8, nR[n.val]? = some (nR.getD n.val 0) ∧ 0 < nR.getD n.val 0 ∧ nR.getD n.val 0 < 1000000000 := by decide
 exact this ⟨k.toNat, by omega⟩
theorem Ft {k : Int} (h0 : 0 ≤ k) (h1 : k < 5) : oR[k.toNat]? = some (oR.getD k.toNat 0) ∧ 0 < oR.getD k.toNat 0 ∧ oR.getD k.toNat 0 < 1000000000 := by
 have : ∀ n : Fin 5, oR[n.val]? = some (oR.getD n.val 0) ∧ 0 < oR.getD n.val 0 ∧ oR.getD n.val 0 < 1000000000 := by decide
 exact this ⟨k.toNat, by omega⟩
theorem Ab {a b : Int} (ha : 0 < a) (ha' : a < 1000000000) (hb : 0 < b) (hb' : b < 1000000000) : 0 < a * b ∧ a * b < 1000000000000000000 := by
 have h1 := Int.mul_pos ha hb
 have h2 : a * b ≤ 1000000000 * b := Int.mul_le_mul_of_nonneg_right (by omega) (by omega)
 exact ⟨h1, by omega⟩
structure cX (x : Str) : Prop where
 lo : 1 ≤ x.length
 hi : x.length ≤ 8
 ok : ∀ n ∈ x.cps.toList, 97 ≤ n ∧ n ≤ 122
theorem cX.nodot {x : Str} (h : cX x) : 46 ∉ x.cps.toList := fun z => by have := h.ok 46 z; omega
def letters : Str := "abcdefghijklmnopqrstuvwxyz"
theorem yE {k : Int} (h0 : 0 ≤ k) (h1 : k < 26) : letters.cps.toList[k.toNat]? = some (97 + k.toNat) := by
 have : ∀ n : Fin 26, letters.cps.toList[n.val]? = some (97 + n.val) := by decide +kernel
 exact this ⟨k.toNat, by omega⟩
theorem ph : (("." : Str)) = ⟨#[46]⟩ := by decide +kernel
theorem Cg : (("" : Str)) = ⟨#[]⟩ := by decide +kernel
def dotted (ys : List Str) : Str := Txt.join ("." : Str) ys
theorem cB (ys : List Str) : dotted ys = Str.join ⟨#[46]⟩ ys := by
 unfold dotted
 rw [ph]
 exact StrLaws.glued_eq_join _ ys
theorem dq (ys : List Str) (h0 : ys ≠ []) (hn : ∀ y ∈ ys, cX y) : Txt.split (dotted ys) ("." : Str) = ys := by
 rw [cB, ph]
 exact yr 46 ys h0 fun y hy => (hn y hy).nodot
theorem zO (y : Str) (h : cX y) : Txt.rpartition y ("." : Str) = (Str.empty, Str.empty, y) := by
 unfold Txt.rpartition
 rw [ph, Aq h.nodot]
theorem qN (xs : List Str) (b : Str) (h0 : xs ≠ []) (h : cX b) : Txt.rpartition (dotted (xs ++ [b])) ("." : Str) = (dotted xs, (".": Str), b) := by
 unfold Txt.rpartition
 rw [cB, cB, ph, join_snoc _ _ _ h0, zX h.nodot]
 show (strSub (Str.join ⟨#[46]⟩ xs ++ (⟨#[46]⟩ : Str) ++ b) 0 (Str.join ⟨#[46]⟩ xs).length, _, strSub _ _ _) = _
 have e1 : strSub (Str.join ⟨#[46]⟩ xs ++ (⟨#[46]⟩ : Str) ++ b) 0 (Str.join ⟨#[46]⟩ xs).length = Str.join ⟨#[46]⟩ xs := by
  have : Str.join ⟨#[46]⟩ xs ++ (⟨#[46]⟩ : Str) ++ b = Str.join ⟨#[46]⟩ xs ++ ((⟨#[46]⟩ : Str) ++ b) := jU (by simp only [cH, List.append_assoc])
  rw [this]; exact CK _ _
 have e2 : strSub (Str.join ⟨#[46]⟩ xs ++ (⟨#[46]⟩ : Str) ++ b) ((Str.join ⟨#[46]⟩ xs).length + (⟨#[46]⟩ : Str).length) (Str.join ⟨#[46]⟩ xs ++ (⟨#[46]⟩ : Str) ++ b).length = b := by
  have l1 : (Str.join ⟨#[46]⟩ xs).length + (⟨#[46]⟩ : Str).length = (Str.join ⟨#[46]⟩ xs ++ (⟨#[46]⟩ : Str)).length := by rw [eZ, eZ, eZ, cH, List.length_append]
  rw [l1]; exact Bf _ _
 rw [e1, e2]
theorem uD {ys : List Str} {n : Nat} (h : ∀ y ∈ ys, y.length ≤ n) : (ys.map (·.length)).sum ≤ ys.length * n := by
 induction ys with
 | nil => simp
 | cons y r ih =>
  have h1 := h y List.mem_cons_self
  have h2 := ih fun z hz => h z (List.mem_cons_of_mem _ hz)
  simp only [List.map_cons, List.sum_cons, List.length_cons, Nat.add_mul, Nat.one_mul]
  omega
theorem xM (ys : List Str) : (dotted ys).length ≤ (ys.map (·.length)).sum + ys.length := by
 rw [cB]
 have := StrLaws.join_length_le ⟨#[46]⟩ ys
 have e : (⟨#[46]⟩ : Str).length = 1 := rfl
 rw [e] at this
 omega
end Mine
namespace L2
open PySem PySem.Spec PyProof.Rows
section
variable {X : Cx}
def J4 (K : PySem.W.Frag) : List V → Hp → VK → Prop := fun xs H Q => ∃ x t n b, xs = [x, .ty n] ∧ mC K H x t ∧ PySem.W.kitOne K t (.type n) = some b ∧ Q (.bl b) H
theorem um : jE X (.builtin "isinstance") (J4 X.K) := by
 intro pins s σ H xs us Q I r h
 obtain ⟨x, t, n, b, rfl, ty, e, q⟩ := h
 obtain ⟨u, u2, rfl, rx, ry⟩ := vals2 r
 cases (show u2 = Value.type n from ry)
 exact uc I rx ty e fun tk => ⟨.bl b, H, I.tok tk, rfl, q⟩
theorem xj {K : PySem.W.Frag} {n : String} : PySem.W.kitOne K (.type n) (.type n) = some true := by
 unfold PySem.W.kitOne
 rw [if_pos (by simp)]
theorem yJ {ys : List Str} : ∀ {us : List Value}, Vals (ys.map V.str) us → StrsAre us ys := by
 induction ys with
 | nil => intro us r; rw [List.map_nil] at r; cases r; exact .nil
 | cons y ys ih =>
  intro us r
  rw [List.map_cons] at r
  cases r with
  | cons r1 r2 =>
   obtain ⟨t, e⟩ := r1
   subst e
   exact .cons y t (ih r2)
theorem uy : ∀ (l : List (Str × Tok)), Vals ((l.map (·.1)).map V.str) (strValues l)
 | [] => .nil
 | (y, t) :: l => .cons ⟨t, rfl⟩ (uy l)
def rJoin (K : PySem.W.Frag) : V → List V → Hp → VK → Prop := fun x vs H Q => ∃ sep p ys, x = .str sep ∧ vs = [.ref p] ∧ (SqL K H p (ys.map V.str) ∨ SqT K H p (ys.map V.str)) ∧
 (ys.map (·.length)).sum + ys.length * sep.length ≤ 16777216 ∧ Q (.str (Txt.join sep ys)) H
theorem vp : MtR X "str.join" (rJoin X.K) := by
 intro pins s σ H x vs v us Q I rx rv h
 obtain ⟨sep, p, ys, rfl, rfl, hq, hz, q⟩ := h
 obtain ⟨t, rfl⟩ := rx
 obtain ⟨u, rfl, ru⟩ := vals1 rv
 cases (show u = Value.ref p from ru)
 rcases hq with hq | hq
 ·obtain ⟨its, r, pl, _⟩ := I.list hq
  exact join_list pl.isList (by simpa using yJ r) hz fun t' k => ⟨.str _, H, I.tok k, ⟨t', rfl⟩, q⟩
 ·obtain ⟨its, r, pl, _⟩ := I.tuple hq
  exact join_tuple pl (by simpa using yJ r) hz fun t' k => ⟨.str _, H, I.tok k, ⟨t', rfl⟩, q⟩
def Ib : V → List V → Hp → VK → Prop := fun x vs H Q => ∃ z sep, x = .str z ∧ vs = [.str sep] ∧ (sep.length == 0) = false ∧ z.length + 2 ≤ sizeLine ∧
 ∀ p, H p = none → Q (.ref p) (upd H p (.lst ((Txt.split z sep).map V.str)))
theorem Ay (z sep : Str) (h : z.length + 2 ≤ sizeLine) : (Txt.split z sep).length ≤ sizeLine := by
 unfold Txt.split
 split
 ·simp; omega
 ·split
  ·simp; omega
  ·have e1 := StrLaws.occ_length_le z sep 0 z.length (z.length + 1)
   rw [length_partsBetween]; omega
theorem oE : MtR X "str.split" Ib := by
 intro pins s σ H x vs v us Q I rx rv h
 obtain ⟨z, sep, rfl, rfl, hy, hz, q⟩ := h
 obtain ⟨t, rfl⟩ := rx
 obtain ⟨u, rfl, ru⟩ := vals1 rv
 obtain ⟨t2, rfl⟩ := ru
 have fin : ∀ (l : List (Str × Tok)) (k : Nat), l.map (·.1) = Txt.split z sep →
   EP X pins σ Q (.ref s.heap.objs.size) { s with heap := s.heap.push { cls := .type "list", data := .seq (strValues l).toArray }, toks := k } := fun l k e => by
  have hv := uy l
  rw [e] at hv
  exact ⟨.ref s.heap.objs.size, _, I.lnew hv (by rw [List.length_map]; exact Ay z sep hz), rfl, q _ I.fresh⟩
 have few : (Builtin.Str.partsBetween z (Builtin.Str.occurrences z sep 0 z.length (z.length + 1)) sep.length).length ≤ sizeLine := by
  have e1 := StrLaws.occ_length_le z sep 0 z.length (z.length + 1)
  rw [length_partsBetween]; omega
 cases h1 : (decide (z.length < sep.length) || decide (Builtin.Str.strKind z < Builtin.Str.strKind sep))
 ·cases hf : (Builtin.Str.occurrences z sep 0 z.length (z.length + 1)).isEmpty
  ·refine call_meets F.slot_str_split (typeIs_str _ _ _) F.entry_str_split (F.args_str_split_2 _ _) (meets_str_split_sep z sep t t2 h1 hy hf (by omega) few) ?_
   rw [strsFrom_eq]
   exact fin (numbered s.toks _) _ ((numbered_texts _ _).trans (by unfold Txt.split; rw [if_neg (by rw [h1]; exact Bool.false_ne_true), if_neg (by rw [hf]; exact Bool.false_ne_true)]))
  ·refine call_meets F.slot_str_split (typeIs_str _ _ _) F.entry_str_split (F.args_str_split_2 _ _) (meets_str_split_not_found z sep t t2 h1 hy hf) ?_
   exact fin [(z, t)] s.toks (by unfold Txt.split; rw [if_neg (by rw [h1]; exact Bool.false_ne_true), if_pos hf] <;> rfl)
 ·refine call_meets F.slot_str_split (typeIs_str _ _ _) F.entry_str_split (F.args_str_split_2 _ _) (meets_str_split_cannot_occur z sep t t2 h1) ?_
  exact fin [(z, t)] s.toks (by unfold Txt.split; rw [if_pos h1] <;> rfl)
def Hh : V → List V → Hp → VK → Prop := fun x vs H Q => ∃ z sep, x = .str z ∧ vs = [.str sep] ∧ (sep.length == 0) = false ∧ z.length ≤ sizeLine ∧
 ∀ p, H p = none → Q (.ref p) (upd H p (.tup [.str (Txt.rpartition z sep).1, .str (Txt.rpartition z sep).2.1, .str (Txt.rpartition z sep).2.2]))
theorem Inv.tnew {pins : List (Addr × Obj)} {σ : St} {H : Hp} {s : Shared} {ys : List V} {its : List Value} {t' : Nat} (I : Inv X pins σ H s) (hv : Vals ys its) (hz : ys.length ≤ sizeLine) :
  Inv X pins σ (upd H s.heap.objs.size (.tup ys)) { s with heap := s.heap.push { cls := .type "tuple", data := .seq its.toArray }, toks := t' } :=
 I.laid (fun b o e => Heap.get?_push_of_some _ e) (Nat.le_refl _) (show bI X.prog X.w _ _ _ (.tup ys) from ⟨hz, its, hv, IsTup.new _ _⟩)
theorem rH (a b c : Str) (t u v : Tok) : Vals [.str a, .str b, .str c] [.str a t, .str b u, .str c v] := .cons ⟨t, rfl⟩ (.cons ⟨u, rfl⟩ (.cons ⟨v, rfl⟩ .nil))
theorem vR : MtR X "str.rpartition" Hh := by
 intro pins s σ H x vs v us Q I rx rv h
 obtain ⟨z, sep, rfl, rfl, hy, hz, q⟩ := h
 obtain ⟨t, rfl⟩ := rx
 obtain ⟨u, rfl, ru⟩ := vals1 rv
 obtain ⟨t2, rfl⟩ := ru
 refine call_meets F.slot_str_rpartition (typeIs_str _ _ _) F.entry_str_rpartition (F.args_str_rpartition_2 _ _) (meets_str_rpartition z sep t t2 hy hz) ?_
 have q' := q
 unfold Txt.rpartition at q'
 revert q'
 cases Builtin.Str.lastOccurrence z sep 0 z.length with
 | none => intro q'; exact ⟨.ref s.heap.objs.size, _, I.tnew (rH _ _ _ _ _ _) (by show 3 ≤ sizeLine; decide), rfl, q' _ I.fresh⟩
 | some i => intro q'; exact ⟨.ref s.heap.objs.size, _, I.tnew (rH _ _ _ _ _ _) (by show 3 ≤ sizeLine; decide), rfl, q' _ I.fresh⟩
end
theorem vH {env : Env} : ∀ (ns : List (Str × NameKind)) (acc : List (Str × Addr)), (∀ y ∈ ns, y.2 = .free → ∃ c, env.cells.lookup y.1 = some c) → (∀ p ∈ acc, env.cells.lookup p.1 = some p.2) →
  ∃ cl : List (Str × Addr), (forIn ns acc fun (y : Str × NameKind) (cs : List (Str × Addr)) => (match y with
   | (name, kind) => if (kind == NameKind.free) = true then (do let c ← cellOf env name; pure (ForInStep.yield ((name, c) :: cs))) else pure (ForInStep.yield cs) : Sem (ForInStep (List (Str × Addr))))) = pure cl ∧
   (∀ p ∈ cl, env.cells.lookup p.1 = some p.2) ∧ (∀ p ∈ acc, p ∈ cl) ∧ ∀ y ∈ ns, y.2 = .free → ∃ c, (y.1, c) ∈ cl
 | [], acc, _, ha => ⟨acc, rfl, ha, fun _ h => h, fun _ h => nomatch h⟩
 | (n, k) :: r, acc, hn, ha => by
  have hr : ∀ y ∈ r, y.2 = .free → ∃ c, env.cells.lookup y.1 = some c := fun y hy => hn y (List.mem_cons_of_mem _ hy)
  by_cases hk : k = NameKind.free
  ·subst hk
   obtain ⟨c, hc⟩ := hn (n, .free) List.mem_cons_self rfl
   have hc' : env.cells.lookup n = some c := hc
   obtain ⟨cl, e, h1, h2, h3⟩ := vH r ((n, c) :: acc) hr (fun p hp => by
    rcases List.mem_cons.mp hp with rfl | hp
    ·exact hc'
    ·exact ha p hp)
   refine ⟨cl, ?_, h1, fun p hp => h2 p (List.mem_cons_of_mem _ hp), fun y hy hf => ?_⟩
   ·rw [List.forIn_cons]
    have e1 : cellOf env n = pure c := by unfold cellOf; rw [hc']
    simp only [beq_self_eq_true, if_true, e1, pure_bind]
    exact e
   ·rcases List.mem_cons.mp hy with rfl | hy
    ·exact ⟨c, h2 _ List.mem_cons_self⟩
    ·exact h3 y hy hf
  ·obtain ⟨cl, e, h1, h2, h3⟩ := vH r acc hr ha
   refine ⟨cl, ?_, h1, h2, fun y hy hf => ?_⟩
   ·rw [List.forIn_cons]
    have hb : (k == NameKind.free) = false := by simpa using hk
    simp only [hb, Bool.false_eq_true, if_false, pure_bind]
    exact e
   ·rcases List.mem_cons.mp hy with rfl | hy
    ·exact absurd hf hk
    ·exact h3 y hy hf
theorem uh {α : Type} : ∀ {l : List (Str × α)} {x : Str} {c : α}, (x, c) ∈ l → ∃ d, l.lookup x = some d
 | [], _, _, h => nomatch h
 | (y, d) :: r, x, c, h => by
  by_cases e : x = y
  ·subst e; exact ⟨d, by simp [List.lookup_cons]⟩
  ·have hb : (x == y) = false := by simpa using e
   rcases List.mem_cons.mp h with z | z
   ·cases z; exact absurd rfl e
   ·obtain ⟨d', h'⟩ := uh z
    exact ⟨d', by simp only [List.lookup_cons, hb]; exact h'⟩
theorem Ek {scope : Scope} {env : Env} (h : ∀ y ∈ scope.names, y.2 = .free → ∃ c, env.cells.lookup y.1 = some c) :
  ∃ cl : List (Str × Addr), closureFor scope env = pure cl ∧ (∀ x c, cl.lookup x = some c → env.cells.lookup x = some c) ∧ ∀ x, (x, NameKind.free) ∈ scope.names → ∃ c, cl.lookup x = some c := by
 obtain ⟨cl, e, h1, _, h3⟩ := vH (env := env) scope.names [] h (fun p hp => nomatch hp)
 refine ⟨cl, ?_, fun x c q => h1 (x, c) (PySem.mem_of_lookup q), fun x hx => ?_⟩
 ·simp only [closureFor]
  simp only [bind_pure]
  exact e
 ·obtain ⟨c, hc⟩ := h3 (x, .free) hx rfl
  exact uh hc
def mQ (osc sc : Scope) (oN : List Str) : List (Option Nat) → List Str → Bool
 | [], [] => true
 | none :: r, _ :: n => mQ osc sc oN r n
 | some k :: r, x :: n => (oN[k]? == some x) && (sc.names.lookup x == some .free) && mQ osc sc oN r n
 | _, _ => false
theorem qZ {osc sc : Scope} {oN : List Str} : ∀ {ix : List (Option Nat)} {N : List Str}, mQ osc sc oN ix N = true → ix.length = N.length
 | [], [], _ => rfl
 | none :: _, _ :: _, h => congrArg (· + 1) (qZ (by simpa [mQ] using h))
 | some _ :: _, _ :: _, h => congrArg (· + 1) (qZ (by simp [mQ] at h; exact h.2))
 | [], _ :: _, h => by simp [mQ] at h
 | none :: _, [], h => by simp [mQ] at h
 | some _ :: _, [], h => by simp [mQ] at h
theorem uI {osc sc : Scope} {oN : List Str} : ∀ {ix : List (Option Nat)} {N : List Str} (i k : Nat), mQ osc sc oN ix N = true → ix[i]? = some (some k) → ∃ x, N[i]? = some x ∧ oN[k]? = some x ∧ sc.names.lookup x = some .free
 | [], _, _, _, _, e => by simp at e
 | none :: _, [], _, _, h, _ => by simp [mQ] at h
 | some _ :: _, [], _, _, h, _ => by simp [mQ] at h
 | none :: r, x :: n, 0, _, _, e => by simp at e
 | none :: r, x :: n, i + 1, k, h, e => by
  obtain ⟨y, h1, h2⟩ := uI (ix := r) (N := n) i k (by simpa [mQ] using h) (by simpa using e)
  exact ⟨y, by simpa using h1, h2⟩
 | some j :: r, x :: n, 0, k, h, e => by
  simp [mQ] at h
  simp at e
  subst e
  exact ⟨x, by simp, h.1.1, h.1.2⟩
 | some j :: r, x :: n, i + 1, k, h, e => by
  simp [mQ] at h
  obtain ⟨y, h1, h2⟩ := uI (ix := r) (N := n) i k h.2 (by simpa using e)
  exact ⟨y, by simpa using h1, h2⟩
def lG (osc : Scope) (oN N : List Str) (ix : List (Option Nat)) (sc : Scope) : Bool :=
 (sc.kind == .function) && sc.names.all (fun y => (y.2 != .cell) && ((y.2 != .local) || (sc.names.lookup y.1 == some .local)) && ((y.2 != .free) || ((osc.names.lookup y.1 == some .cell) || (osc.names.lookup y.1 == some .free)))) && mQ osc sc oN ix N
theorem rZ {env : Env} : ∀ {names : List (Str × NameKind)} {x : Str}, names.lookup x = some .free →
  (names.map fun (n, k) => if (k == NameKind.free && env.scope.kind == .function && env.kindOf n == some .cell) then (n, NameKind.cell) else (n, k)).lookup x = some .cell ∨
  (names.map fun (n, k) => if (k == NameKind.free && env.scope.kind == .function && env.kindOf n == some .cell) then (n, NameKind.cell) else (n, k)).lookup x = some .free
 | [], _, h => by simp at h
 | (n, k) :: r, x, h => by
  have ih := @rZ env r x
  simp only [List.map_cons]
  cases hx : x == n with
  | true =>
   simp only [List.lookup_cons, hx] at h
   cases h
   by_cases hc : (NameKind.free == NameKind.free && env.scope.kind == .function && env.kindOf n == some .cell) = true
   ·left; rw [if_pos hc]; simp only [List.lookup_cons, hx]
   ·right; rw [if_neg hc]; simp only [List.lookup_cons, hx]
  | false =>
   simp only [List.lookup_cons, hx] at h
   by_cases hc : (k == NameKind.free && env.scope.kind == .function && env.kindOf n == some .cell) = true
   ·rw [if_pos hc]; simp only [List.lookup_cons, hx]; exact ih h
   ·rw [if_neg hc]; simp only [List.lookup_cons, hx]; exact ih h
theorem qT {env : Env} : ∀ {names : List (Str × NameKind)} {x : Str}, (∀ y ∈ names, y.2 ≠ NameKind.cell) →
  ((names.map fun (n, k) => if (k == NameKind.free && env.scope.kind == .function && env.kindOf n == some .cell) then (n, NameKind.cell) else (n, k)).lookup x = some .cell ∨
  (names.map fun (n, k) => if (k == NameKind.free && env.scope.kind == .function && env.kindOf n == some .cell) then (n, NameKind.cell) else (n, k)).lookup x = some .free) → (x, NameKind.free) ∈ names
 | [], _, _, h => by simp at h
 | (n, k) :: r, x, hn, h => by
  have ih := @qT env r x fun y hy => hn y (List.mem_cons_of_mem _ hy)
  simp only [List.map_cons] at h
  by_cases hc : (k == NameKind.free && env.scope.kind == .function && env.kindOf n == some .cell) = true
  ·rw [if_pos hc] at h
   cases hx : x == n with
   | true =>
    have e : x = n := by simpa using hx
    have e2 : k = NameKind.free := by simp at hc; exact hc.1.1
    subst e; subst e2
    exact List.mem_cons_self
   | false =>
    simp only [List.lookup_cons, hx] at h
    exact List.mem_cons_of_mem _ (ih h)
  ·rw [if_neg hc] at h
   cases hx : x == n with
   | true =>
    have e : x = n := by simpa using hx
    subst e
    simp only [List.lookup_cons, hx] at h
    rcases h with h | h
    ·cases h; exact absurd rfl (hn (x, .cell) List.mem_cons_self)
    ·cases h; exact List.mem_cons_self
   | false =>
    simp only [List.lookup_cons, hx] at h
    exact List.mem_cons_of_mem _ (ih h)
def blk (X : Cx) (N : List Str) (sc : Scope) (cl : List (Str × Addr)) (C : Addr) (fp : List Addr) (s : Shared) (H : Hp) : Cx :=
 { X with N := N, s₀ := s, H₀ := H, env := compEnvC sc cl C X.env, outer := X.stack, ex := fp, fn := fun _ => false, pn := [], xe := fun _ _ => False }
def lift (ix : List (Option Nat)) (σ : St) : St := ix.map fun o => o.bind fun k => (σ[k]?).bind id
def PF (X : Cx) (ifs : List Expr) (t : TT) : Prop :=
 ∀ (pins : List (Addr × Obj)) (s : Shared) (σ : St) (H : Hp) (Q : Bool → Hp → Prop), Inv X pins σ H s → t σ H Q →
  wpAny (model X.prog X.w) X.A (forIn ifs true fun c r => if r = true then do let ok ← isTrue c X.env (eval c X.env); pure (ForInStep.yield ok) else pure (ForInStep.yield r)) (TP X pins σ Q) X.xe s
def xr : TT := fun _ H Q => Q true H
theorem eN {X : Cx} : PF X [] xr := fun pins s σ H Q I h => wpAny_tests_nil ⟨H, I, h⟩
theorem jH {X : Cx} {c : Expr} {t : TT} (hc : PT X c t) : PF X [c] t := fun pins s σ H Q I h => wpAny_tests_one (hc pins s σ H Q I h)
def pI (g : TG) (tf : TT) (te : TE) (J : It) (σ0 : St) (H1 : Hp) (Fin : List V → Hp → Prop) : Prop :=
 ∃ W : Nat → Nat → St → List V → Hp → Prop, (∃ m, W 0 m σ0 [] H1) ∧ ∀ i m τ ys H, W i m τ ys H →
  (J.stop i H ∧ Fin ys H) ∨ (J.go i H ∧ ∀ x H', J.yld i H x H' → g x τ H' fun τ2 H2 => tf τ2 H2 fun b H3 =>
   if b = true then te τ2 H3 fun y H4 => ys.length < sizeLine ∧ ∃ m', m' < m ∧ W (i + 1) m' τ2 (ys ++ [y]) H4 else ∃ m', m' < m ∧ W (i + 1) m' τ2 ys H3)
def Dw (ix : List (Option Nat)) (wi : TI) (g : TG) (tf : TT) (te : TE) : TE := fun σ H Q => wi σ H fun J H1 => pI g tf te J (lift ix σ) H1 fun ys H' => ∀ p, H' p = none → Q (.ref p) (upd H' p (.lst ys))
theorem Pa {P : Program} {w : World} {A : Around} {R : Result → Shared → Prop} {s : Shared} {el tg src : Expr} {fs : List Expr} {sc : Scope} {ps : Pos} {iv ac : Value} {en : Env} (J : Nat → Shared → Prop)
  (turn : ∀ n s, J n s → wpAny (model P w) A (pyNext iv) (fun r s1 => match r with
   | none => R (.ok .next) s1
   | some v => wpAny (model P w) A (letOwnedTupleGo tg iv v) (fun _ s2 => wpAny (model P w) A (assign tg en v) (fun _ s3 =>
     wpAny (model P w) A (forIn fs true fun c r => if r = true then do let ok ← isTrue c en (eval c en); pure (ForInStep.yield ok) else pure (ForInStep.yield r)) (fun ok s4 =>
      if ok = true then wpAny (model P w) A (eval el en) (fun x s5 => wpAny (model P w) A (call (.builtin "list.append") [ac, x]) (fun _ s6 => ∃ m, m < n ∧ J m s6) (fun _ _ => False) s5) (fun _ _ => False) s4
      else ∃ m, m < n ∧ J m s4) (fun _ _ => False) s3) (fun _ _ => False) s2) (fun _ _ => False) s1) (fun _ _ => False) s)
  (n : Nat) (h : J n s) : codeAny (model P w) A (.compLoop (.ListComp el [⟨tg, src, fs, 0⟩] sc ps) 0 iv ac en) R s := by
 have ab : ∀ {α : Type} {t : Sem α} {Q Q' : α → Shared → Prop} {E : Value → Shared → Prop} {s : Shared}, wpAny (model P w) A t Q (fun _ _ => False) s → (∀ a s, Q a s → Q' a s) → wpAny (model P w) A t Q' E s :=
  fun h hq => wpAny_mono h hq fun _ _ f => f.elim
 refine codeAny_loop rfl J (fun n s hJ => ?_) n h
 show wpAny _ A ((compTurn (.ListComp el [⟨tg, src, fs, 0⟩] sc ps) 0 iv ac en).onRaise (fun x => do noteFrame x en; theTreesLotGoes x)) _ _ s
 refine wpAny_noted ?_
 rw [compTurn_list]
 refine wpAny_bind (wpAny_standAt (wpAny_bind (ab (turn n s hJ) fun r s1 h1 => ?_)))
 cases r with
 | none => exact wpAny_pure h1
 | some v =>
  refine wpAny_bind (ab h1 fun _ s2 h2 => wpAny_bind (ab h2 fun _ s3 h3 => wpAny_bind (ab h3 fun ok s4 h4 => ?_)))
  cases ok with
  | false => exact wpAny_pure ⟨rfl, h4⟩
  | true => exact wpAny_bind (wpAny_bind (ab h4 fun x s5 h5 => wpAny_bind (ab h5 fun _ s6 h6 => wpAny_pure (wpAny_pure ⟨rfl, h6⟩))))
section
variable {X : Cx} {pins : List (Addr × Obj)} {σ : St} {H2 : Hp} {s2 : Shared} {N : List Str} {ix : List (Option Nat)} {sc : Scope} {cl : List (Str × Addr)}
theorem Ik (I : Inv X pins σ H2 s2) (hb : lG X.env.scope X.N N ix sc = true) (c1 : ∀ x c, cl.lookup x = some c → X.env.cells.lookup x = some c) (c2 : ∀ x, (x, NameKind.free) ∈ sc.names → ∃ c, cl.lookup x = some c)
  {fp : List Addr} (hf : ∀ b ∈ fp, rB X pins H2 b) (hfo : ∀ b ∈ fp, ∃ o, s2.heap.get? b = some o) {C : Addr} (hC : s2.heap.objs.size ≤ C) : (blk X N sc cl C fp s2 H2).Ok := by
 unfold lG at hb
 simp only [Bool.and_eq_true] at hb
 obtain ⟨⟨hk, hn⟩, hi⟩ := hb
 have nocell : ∀ y ∈ sc.names, y.2 ≠ NameKind.cell := fun y hy => by
  have := List.all_eq_true.mp hn y hy
  simp only [Bool.and_eq_true] at this
  simpa using this.1.1
 refine ⟨I.ok.mod, ?_, I.ok.glob, I.ok.blt, hC, fun x y c h1 h2 => I.ok.inj x y c (c1 x c h1) (c1 y c h2), fun x hx => ?_, fun x c hx => ?_, I.ok.hd, I.ok.frames, .inl rfl, fun b hb => ⟨?_, fun x c h => ?_⟩, I.bs, Nat.le_trans I.ok.bsz I.sz, fun b o e hb => ?_, fun b hb hs => ?_, I.stack, I.stkFree⟩
 ·show (relabel sc X.env).kind = .function
  exact eq_of_beq hk
 ·exact c2 x (qT nocell hx)
 ·cases hx
 ·show b ≠ C
  obtain ⟨o, e⟩ := hfo b hb
  exact Nat.ne_of_lt (Nat.lt_of_lt_of_le (Heap.lt_size e) hC)
 ·obtain ⟨_, _, _, _, h5, _⟩ := hf b hb
  exact h5 x c (c1 x c h)
 ·obtain ⟨_, _, _, h4, _, _⟩ := hf b hb
  rcases h4 with h4 | h4
  ·exact I.ok.noex b o e h4
  ·exact absurd (Nat.lt_of_lt_of_le (Heap.lt_size (I.ok.bs b o e).1) h4) (Nat.lt_irrefl _)
 ·obtain ⟨_, h2, h3, _⟩ := hf b hb
  rcases List.mem_cons.mp (I.stkSub b hs) with z | z
  ·exact h2 z
  ·exact h3 z
theorem Un.grow {fs ex : List Addr} {H H' : Hp} {h h' : Heap} {D : Addr} {o : HO} (u : Un fs ex H H' h h') (hD : h.objs.size ≤ D) (hn : H D = none) : Un fs ex H (upd H' D o) h h' := by
 have lt : ∀ {b : Addr} {ob : Obj}, h.get? b = some ob → b ≠ D := fun e z => by
  subst z; exact absurd (Nat.lt_of_lt_of_le (Heap.lt_size e) hD) (Nat.lt_irrefl _)
 refine ⟨u.keep, u.slot, fun b ob e n hx => by rw [aG (lt e)]; exact u.free b ob e n hx, u.there, fun b xs e => ?_, fun b ob v e => ?_, fun b ps e => ?_⟩
 ·rw [aG (aF e hn)]; exact u.tups b xs e
 ·rw [aG (aF e hn)]; exact u.frzs b ob v e
 ·obtain ⟨m, q⟩ := u.tbls b ps e
  exact ⟨m, by rw [aG (aF e hn)]; exact q⟩
theorem HOk.grow {P : Program} {w : World} {H : Hp} {h : Heap} {D : Addr} {o : HO} (x : HOk P w H h) (hn : H D = none) (new : bI P w (upd H D o) h D o) : HOk P w (upd H D o) h := fun b u e => by
 by_cases hb : b = D
 ·subst hb; rw [ao] at e; cases e; exact new
 ·rw [aG hb] at e
  exact (x b u e).stay (fun _ _ _ q => q) (fun c q => by rw [aG (aF q hn)]; exact q) fun c xs q => by rw [aG (aF q hn)]; exact q
theorem Ef {ix : List (Option Nat)} {σ : St} {i : Nat} {v : V} (h : (lift ix σ)[i]? = some (some v)) : ∃ k, ix[i]? = some (some k) ∧ σ[k]? = some (some v) := by
 unfold lift at h
 rw [List.getElem?_map] at h
 cases e : ix[i]? with
 | none => rw [e] at h; cases h
 | some o =>
  rw [e] at h
  cases o with
  | none => simp at h
  | some k =>
   refine ⟨k, rfl, ?_⟩
   simp only [Option.map_some, Option.bind_some, Option.some.injEq] at h
   cases q : σ[k]? with
   | none => rw [q] at h; cases h
   | some z => rw [q] at h; have h' : z = some v := h; rw [h']
theorem tY {el tg src : Expr} {ifs : List Expr} {pos : Pos} {g : TG} {tf : TT} {te : TE} {J : It} {fp : List Addr} {it : Addr} {tn : Nat → Heap → Prop} {E : Value → Shared → Prop} {Fin : List V → Hp → Prop} {RR : Value → Addr → Result → Shared → Prop}
  (I : Inv X pins σ H2 s2) (hc : X.calm = true) (hb : lG X.env.scope X.N N ix sc = true) (c1 : ∀ x c, cl.lookup x = some c → X.env.cells.lookup x = some c) (c2 : ∀ x, (x, NameKind.free) ∈ sc.names → ∃ c, cl.lookup x = some c)
  (T : Turn X.prog X.w X.K tg J fp it tn) (st : tn 0 s2.heap) (hf : ∀ b ∈ fp, rB X pins H2 b)
  (hg : ∀ C fp, PG (blk X N sc cl C fp s2 H2) tg g) (hfs : ∀ C fp, PF (blk X N sc cl C fp s2 H2) ifs tf) (he : ∀ C fp, PE (blk X N sc cl C fp s2 H2) el te)
  (hW : pI g tf te J (lift ix σ) H2 Fin)
  (hRR : ∀ D C s' ys H', H' D = none → (∃ m, s'.heap.Ns C m) → Inv X pins σ (upd H' D (.lst ys)) s' → rB X pins (upd H' D (.lst ys)) C → Fin ys H' → RR (.ref D) C (.ok .next) s') :
  wpAny (model X.prog X.w) X.A (newList []) (fun acc s3 => wpAny (model X.prog X.w) X.A (newFunctionEnv sc X.env.globals cl [] X.env.qual none .none (some X.env)) (fun cenv s4 =>
   codeAny (model X.prog X.w) X.A (.compStart (.ListComp el [⟨tg, src, ifs, 0⟩] sc pos) 0 (.ref it) acc { cenv with scope := relabel sc X.env }) (RR acc cenv.locals) s4) E s3) E s2 := by
 obtain ⟨W, ⟨m0, w0⟩, turn⟩ := hW
 have hb' := hb
 unfold lG at hb'
 simp only [Bool.and_eq_true] at hb'
 obtain ⟨⟨hk, hn⟩, hi⟩ := hb'
 have nocell : ∀ y ∈ sc.names, y.2 ≠ NameKind.cell := fun y hy => by
  have := List.all_eq_true.mp hn y hy
  simp only [Bool.and_eq_true] at this
  simpa using this.1.1
 have hkind : sc.kind = .function := eq_of_beq hk
 refine wpAny_newObj_type (wpAny_newFunctionEnv nocell (by intro y hy; simp at hy) (fun h1 hns hsb => ?_) hkind)
 dsimp only at hns hsb ⊢
 generalize hP : s2.heap.push { cls := .type "list", dict := none, data := .seq ([] : List Value).toArray } = P2 at hns hsb ⊢
 have hC : P2.objs.size = s2.heap.objs.size + 1 := by rw [← hP, Heap.size_push]
 have hDC : s2.heap.objs.size ≠ P2.objs.size := by rw [hC]; exact Nat.ne_of_lt (Nat.lt_succ_self _)
 have hCle : s2.heap.objs.size ≤ P2.objs.size := by rw [hC]; omega
 have fpo : ∀ b ∈ fp, ∃ o, s2.heap.get? b = some o := fun b hb => let ⟨o, e, _⟩ := T.obj _ _ st b hb; ⟨o, e⟩
 have old : ∀ b o, s2.heap.get? b = some o → h1.get? b = some o := fun b o e => by
  refine (hsb.2 b ?_).trans (Heap.get?_push_of_some _ (hP ▸ Heap.get?_push_of_some _ e))
  rw [hC]; exact Nat.ne_of_lt (Nat.lt_succ_of_lt (Heap.lt_size e))
 have hacc : h1.get? s2.heap.objs.size = some { cls := .type "list", dict := none, data := .seq ([] : List Value).toArray } :=
  (hsb.2 _ hDC).trans (Heap.get?_push_of_some _ (hP ▸ Heap.get?_push_size _ rfl))
 have bok : (blk X N sc cl P2.objs.size fp s2 H2).Ok := Ik I hb c1 c2 hf fpo hCle
 have frD : ∀ {b : Addr}, s2.heap.objs.size ≤ b → b ∉ frs X.stack := fun hb hz => by
  rcases List.mem_cons.mp (I.stkSub _ hz) with z | z
  ·exact absurd (z ▸ hb) (Nat.not_le.mpr I.lt)
  ·exact I.nofs hb z
 have cellD : ∀ x c, cl.lookup x = some c → c < s2.heap.objs.size := fun x c e => by
  obtain ⟨v, q⟩ := I.cell x c (c1 x c e)
  exact q.lt
 have I0 : Inv (blk X N sc cl P2.objs.size fp s2 H2) [(s2.heap.objs.size, { cls := .type "list", dict := none, data := .seq ([] : List Value).toArray })] (lift ix σ) H2 { s2 with heap := h1, toks := s2.toks + ([] : List (Str × Value)).length } := by
  refine ⟨bok, rfl, I.bare, Un.kept old, ⟨_, hns, fun i x v e1 e2 e3 => ?_⟩, fun x c e => ?_, I.hok.fresh hCle, fun x c e => I.freeC x c (c1 x c e), fun p hp => ?_, I.hok.kept old, ?_⟩
  ·obtain ⟨k, q1, q2⟩ := Ef e2
   obtain ⟨y, z1, z2, z3⟩ := uI i k hi q1
   have e1' : N[i]? = some x := e1
   rw [e1'] at z1
   cases z1
   have hin : (x, NameKind.free) ∈ sc.names := PySem.mem_of_lookup z3
   obtain ⟨c, hcl⟩ := c2 x hin
   have okind : X.env.scope.names.lookup x = some .cell ∨ X.env.scope.names.lookup x = some .free := by
    have := List.all_eq_true.mp hn _ hin
    simp only [Bool.and_eq_true] at this
    simpa using this.2
   obtain ⟨m, hm, hl⟩ := I.loc
   obtain ⟨u, r, l⟩ := hl k x v z2 q2 (by rcases okind with z | z; exact .inr (.inl z); exact .inr (.inr z))
   refine ⟨u, r, .inr ⟨rZ z3, c, hcl, ?_⟩⟩
   rcases l with ⟨lk, _⟩ | ⟨_, c', hc', z⟩
   ·have lk' : X.env.scope.names.lookup x = some .local := lk
    rcases okind with q | q <;> rw [q] at lk' <;> cases lk'
   ·rw [c1 x c hcl] at hc'
    cases hc'
    obtain ⟨oc, ho, hd⟩ := z
    exact ⟨oc, old _ _ ho, hd⟩
  ·obtain ⟨v, oc, ho, hd⟩ := I.cell x c (c1 x c e)
   exact ⟨v, oc, old _ _ ho, hd⟩
  ·have hp' : p = (s2.heap.objs.size, { cls := .type "list", dict := none, data := .seq ([] : List Value).toArray }) := by
    rcases List.mem_append.mp hp with z | z
    ·exact absurd (show p ∈ ([] : List (Addr × Obj)) from z) (by simp)
    ·simpa using z
   subst hp'
   exact ⟨hacc, I.fresh, hDC, frD (Nat.le_refl _), fun v z => by cases z⟩
  ·show (lift ix σ).length = N.length
   unfold lift
   rw [List.length_map]
   exact qZ hi
 have stat : ∀ {o : Obj} {H' : Hp}, (∀ b ∈ fp, H' b = none) → ∀ b ∈ fp, rB (blk X N sc cl P2.objs.size fp s2 H2) [(s2.heap.objs.size, o)] H' b := fun {o H'} hz b hb => by
  obtain ⟨_, g2, g3, g4, g5, g6⟩ := hf b hb
  obtain ⟨ob, eb⟩ := fpo b hb
  have lb := Heap.lt_size eb
  refine ⟨hz b hb, ?_, ?_, .inl hb, fun x c e => g5 x c (c1 x c e), fun p hp => ?_⟩
  ·show b ≠ P2.objs.size
   rw [hC]; exact Nat.ne_of_lt (Nat.lt_succ_of_lt lb)
  ·intro hz
   rcases List.mem_cons.mp (I.stkSub b hz) with z | z
   ·exact g2 z
   ·exact g3 z
  ·have hp' : p = (s2.heap.objs.size, o) := by
    rcases List.mem_append.mp hp with z | z
    ·exact absurd (show p ∈ ([] : List (Addr × Obj)) from z) (by simp)
    ·simpa using z
   subst hp'
   show s2.heap.objs.size ≠ b
   exact Nat.ne_of_gt lb
 have loop : ∀ s4 : Shared, s4 = { s2 with heap := h1, toks := s2.toks + ([] : List (Str × Value)).length } →
   codeAny (model X.prog X.w) X.A (.compLoop (.ListComp el [⟨tg, src, ifs, 0⟩] sc pos) 0 (.ref it) (.ref s2.heap.objs.size) (compEnvC sc cl P2.objs.size X.env)) (RR (.ref s2.heap.objs.size) P2.objs.size) s4 := by
  rintro s4 rfl
  refine Pa (fun n s' => ∃ (i : Nat) (τ : St) (ys : List V) (its : List Value) (k : Nat) (H' : Hp), Vals ys its ∧ ys.length ≤ sizeLine ∧
    Inv (blk X N sc cl P2.objs.size fp s2 H2) [(s2.heap.objs.size, { cls := .type "list", data := .seq its.toArray k })] τ H' s' ∧ tn i s'.heap ∧ (∀ b ∈ fp, H' b = none) ∧ W i n τ ys H') ?_ m0
   ⟨0, _, [], [], 0, H2, .nil, Nat.zero_le _, I0, T.keep _ _ _ st fun b _ o e => old b o e, fun b hb => (hf b hb).1, w0⟩
  rintro n s5 ⟨i, τ, ys, its, k, H5, rv, hz, I5, st5, fr5, w5⟩
  rcases turn i n τ ys H5 w5 with ⟨stop, fin⟩ | ⟨go, step⟩
  ·refine thn (T.done (blk X N sc cl P2.objs.size fp s2 H2) rfl rfl rfl hc i _ s5 τ H5 (fun _ _ => False) I5 (stat fr5) st5 stop) fun r s6 ⟨hr, I6⟩ => ?_
   subst hr
   obtain ⟨m, hns6, _⟩ := I6.loc
   obtain ⟨gD, fD, _, _, _⟩ := I6.pin (s2.heap.objs.size, { cls := .type "list", data := .seq its.toArray k }) (List.mem_append_right _ (by simp))
   have fD' : H5 s2.heap.objs.size = none := fD
   refine hRR _ _ s6 ys H5 fD' ⟨m, hns6⟩ ?_ (I.fpOk hCle ?_) fin
   ·refine I.call' (ch := fp) I6.os (Un.grow I6.base (Nat.le_refl _) I.fresh) (HOk.grow I6.hok fD' ⟨hz, its, k, rv, gD⟩) I6.bare fun b hb => ?_
    obtain ⟨_, g2, _, g4, g5, g6⟩ := hf b hb
    exact ⟨g4, g2, g5, g6⟩
   ·rw [aG (Ne.symm hDC)]
    exact I6.free
  ·refine thn (T.item (blk X N sc cl P2.objs.size fp s2 H2) rfl rfl rfl hc i _ s5 τ H5 (fun _ _ => False) I5 (stat fr5) st5 go) fun r s6 ⟨u, hr, h6⟩ => ?_
   subst hr
   refine thn h6 fun _ s7 ⟨x, H7, I7, r7, y7, st7, fr7⟩ => ?_
   have I7' := I7.pinned (stat fr7) (T.obj _ _ st7)
   refine thn (hg _ _ _ s7 τ H7 x u _ I7' r7 (step x H7 y7)) fun _ s8 ⟨τ8, H8, I8, q8⟩ => ?_
   refine thn (hfs _ _ _ s8 τ8 H8 _ I8 q8) fun ok s9 ⟨H9, I9, q9⟩ => ?_
   have tail : ∀ {s' : Shared} {τ' : St} {H' : Hp}, Inv (blk X N sc cl P2.objs.size fp s2 H2) ([(s2.heap.objs.size, { cls := .type "list", data := .seq its.toArray k })] ++ sS fp s7.heap) τ' H' s' →
     (s'.heap.get? s2.heap.objs.size = some { cls := .type "list", data := .seq its.toArray k } ∧ H' s2.heap.objs.size = none) ∧ (∀ b ∈ fp, ∀ o, s7.heap.get? b = some o → s'.heap.get? b = some o) ∧ ∀ b ∈ fp, H' b = none := fun {s' τ' H'} I' => by
    refine ⟨?_, fun b hb o e => (I'.pin (b, o) (List.mem_append_right _ (List.mem_append_right _ (kW hb e)))).1, fun b hb => ?_⟩
    ·obtain ⟨a1, a2, _⟩ := I'.pin (s2.heap.objs.size, { cls := .type "list", data := .seq its.toArray k }) (List.mem_append_right _ (List.mem_append_left _ (by simp)))
     exact ⟨a1, a2⟩
    ·obtain ⟨o, e, _⟩ := T.obj _ _ st7 b hb
     exact (I'.pin (b, o) (List.mem_append_right _ (List.mem_append_right _ (kW hb e)))).2.1
   cases ok with
   | false =>
    obtain ⟨m', hm, w9⟩ := q9
    obtain ⟨_, k2, k3⟩ := tail I9
    exact ⟨m', hm, i + 1, τ8, ys, its, k, H9, rv, hz, I9.unpinned, T.keep _ _ _ st7 k2, k3, w9⟩
   | true =>
    refine thn (he _ _ _ s9 τ8 H9 _ I9 q9) fun v s10 ⟨y, H10, I10, r10, hl, m', hm, w10⟩ => ?_
    obtain ⟨⟨gD, fD⟩, k2, k3⟩ := tail I10
    have hlen := rv.length
    refine call_meets F.slot_list_append ⟨_, gD, rfl⟩ F.entry_list_append (F.args_list_append_2 _ _) (PySem.list_append s2.heap.objs.size its.toArray k v (by rw [List.size_toArray]; omega)) ⟨gD, ?_⟩
    obtain ⟨k', q⟩ : ∃ k', (s10.heap.update s2.heap.objs.size (Obj.mapSeq (·.push v))).get? s2.heap.objs.size = some { cls := .type "list", data := .seq (its ++ [v]).toArray k' } := by
     have q := PySem.IsL.update gD (·.push v)
     rw [show (its.toArray.push v) = (its ++ [v]).toArray from by simp] at q
     exact ⟨_, q⟩
    have other : ∀ b o, b ≠ s2.heap.objs.size → s10.heap.get? b = some o → (s10.heap.update s2.heap.objs.size (Obj.mapSeq (·.push v))).get? b = some o := fun b o hb e => (Heap.get?_update_other s10.heap _ (Ne.symm hb)).trans e
    have Ia : Inv (blk X N sc cl P2.objs.size fp s2 H2) [] τ8 H10 { s10 with heap := s10.heap.update s2.heap.objs.size (Obj.mapSeq (·.push v)), toks := s10.toks } :=
     (I10.pins_of (pins' := []) fun p hp => nomatch hp).turned other fD hDC (.inr (Nat.le_refl _)) (fun x c e => Nat.ne_of_lt (cellD x c e)) fun p hp => absurd (show p ∈ ([] : List (Addr × Obj)) from hp) (by simp)
    refine ⟨m', hm, i + 1, τ8, ys ++ [y], its ++ [v], k', H10, rv.append (.cons r10 .nil), by rw [List.length_append, List.length_singleton]; omega, ?_, T.keep _ _ _ st7 fun b hb o e => ?_, k3, w10⟩
    ·refine Ia.pins_of fun p hp => ?_
     have hp' := List.mem_singleton.mp hp
     subst hp'
     exact ⟨q, fD, hDC, frD (Nat.le_refl _), fun v z => by cases z⟩
    ·obtain ⟨ob, eb⟩ := fpo b hb
     exact other b o (Nat.ne_of_lt (Heap.lt_size eb)) (k2 b hb o e)
 exact codeAny_compStart_list (loop _ rfl) (T.self X.A 0 _ _ _ (T.keep _ _ _ st fun b _ o e => old b o e) (loop _ rfl))
end
section
variable {X : Cx} {N : List Str} {ix : List (Option Nat)} {sc : Scope} {el tg src : Expr} {ifs : List Expr} {wi : TI} {g : TG} {tf : TT} {te : TE} {pos : Pos}
theorem Inv.clos {pins : List (Addr × Obj)} {σ : St} {H : Hp} {s : Shared} (I : Inv X pins σ H s) (hb : lG X.env.scope X.N N ix sc = true) :
  ∃ cl : List (Str × Addr), closureFor sc X.env = pure cl ∧ (∀ x c, cl.lookup x = some c → X.env.cells.lookup x = some c) ∧ ∀ x, (x, NameKind.free) ∈ sc.names → ∃ c, cl.lookup x = some c := by
 refine Ek fun y hy hf => I.ok.has y.1 ?_
 unfold lG at hb
 simp only [Bool.and_eq_true] at hb
 have := List.all_eq_true.mp hb.1.2 y hy
 simp only [Bool.and_eq_true] at this
 have h2 := this.2
 rw [hf] at h2
 have h3 : X.env.scope.names.lookup y.1 = some .cell ∨ X.env.scope.names.lookup y.1 = some .free := by simpa using h2
 exact h3
theorem ud (hb : lG X.env.scope X.N N ix sc = true) : sc.kind = .function ∧ ∀ y ∈ sc.names, y.2 = .local → sc.names.lookup y.1 = some .local := by
 unfold lG at hb
 simp only [Bool.and_eq_true] at hb
 refine ⟨eq_of_beq hb.1.1, fun y hy hl => ?_⟩
 have := List.all_eq_true.mp hb.1.2 y hy
 simp only [Bool.and_eq_true] at this
 have h2 := this.1.2
 rw [hl] at h2
 simpa using h2
theorem b7 (ix : List (Option Nat)) (hc : X.calm = true) (hb : lG X.env.scope X.N N ix sc = true) (hi : PI X tg src wi)
  (hg : ∀ cl C fp s H, PG (blk X N sc cl C fp s H) tg g) (hf : ∀ cl C fp s H, PF (blk X N sc cl C fp s H) ifs tf) (he : ∀ cl C fp s H, PE (blk X N sc cl C fp s H) el te)
  (hs : ∀ x, foldedSetIterable src X.env x = pure x := by intro _; rfl) : PE X (.ListComp el [⟨tg, src, ifs, 0⟩] sc pos) (Dw ix wi g tf te) := by
 intro pins s σ H Q I h
 obtain ⟨cl, hcl, c1, c2⟩ := I.clos hb
 obtain ⟨hk, hn⟩ := ud hb
 rw [eval_ListComp]
 refine wpAny_comprehension_free (use := none) rfl hs hcl hk hn (thn (hi pins s σ H _ I h) fun xv s1 h1 => thn h1 fun itv s2 h2 => ?_)
 obtain ⟨it, fp, tn, J, H2, rfl, I2, T, st, f2, hW⟩ := h2
 refine tY (RR := fun acc C => compPost (model X.prog X.w) X.A X.xe none (EP X pins σ Q) acc C) I2 hc hb c1 c2 T st f2 (fun C fp => hg cl C fp s2 H2) (fun C fp => hf cl C fp s2 H2) (fun C fp => he cl C fp s2 H2) hW ?_
 intro D C s' ys H' hD ⟨m, hm⟩ I' fC fin
 refine ⟨m, hm, fun h' hs' => ⟨.ref D, _, ?_, rfl, fin D hD⟩⟩
 obtain ⟨g1, g2, _, g4, g5, g6⟩ := fC
 exact I'.turned (t' := s'.toks) (fun b o hb e => (hs'.2 b hb).trans e) g1 g2 g4 g5 g6
theorem Ep (ix : List (Option Nat)) {i : Nat} {x : Str} {pos' spos : Pos} (hN : X.N.Nodup) (hxi : X.N[i]? = some x) (hx : Loc X.env.scope x) (hc : X.calm = true) (hb : lG X.env.scope X.N N ix sc = true) (hi : PI X tg src wi)
  (hg : ∀ cl C fp s H, PG (blk X N sc cl C fp s H) tg g) (hf : ∀ cl C fp s H, PF (blk X N sc cl C fp s H) ifs tf) (he : ∀ cl C fp s H, PE (blk X N sc cl C fp s H) el te)
  (hsw : swapsWith (.ListComp el [⟨tg, src, ifs, 0⟩] sc pos) (some (.Name x pos')) spos.line X.env = pure true := by rfl)
  (hfn : X.fn x = true ∨ X.env.scope.names.lookup x = some .local := by first | exact .inl rfl | exact .inr rfl | assumption)
  (hs : ∀ x, foldedSetIterable src X.env x = pure x := by intro _; rfl) : PS X (.Assign [.Name x pos'] (.ListComp el [⟨tg, src, ifs, 0⟩] sc pos) spos) (xN (Dw ix wi g tf te) (gY i)) := by
 intro pins s σ H D0 I h
 obtain ⟨cl, hcl, c1, c2⟩ := I.clos hb
 obtain ⟨hk, hn⟩ := ud hb
 rw [exec_Assign_Name_used _ _ _ _ hsw]
 refine wpAny_bind (wpAny_standAt (wpAny_bind ?_))
 show wpAny _ X.A (do let _ ← comprehension (.ListComp el [⟨tg, src, ifs, 0⟩] sc pos) sc X.env _ (newList []) false (eval src X.env) (some (assign (.Name x pos') X.env))) _ _ s
 refine wpAny_bind (thn (wpAny_comprehension_free (use := some (assign (.Name x pos') X.env)) (Q := fun _ s' => SP X pins D0 .next s') rfl hs hcl hk hn (thn (hi pins s σ H _ I h) fun xv s1 h1 => thn h1 fun itv s2 h2 => ?_)) fun _ s' hq => wpAny_pure (wpAny_pure hq))
 obtain ⟨it, fp, tn, J, H2, rfl, I2, T, st, f2, hW⟩ := h2
 refine tY (RR := fun acc C => compPost (model X.prog X.w) X.A X.xe (some (assign (.Name x pos') X.env)) (fun _ s' => SP X pins D0 .next s') acc C) I2 hc hb c1 c2 T st f2 (fun C fp => hg cl C fp s2 H2) (fun C fp => hf cl C fp s2 H2) (fun C fp => he cl C fp s2 H2) hW ?_
 intro D C s' ys H' hD ⟨m, hm⟩ I' fC fin
 obtain ⟨g1, g2, _, g4, g5, g6⟩ := fC
 show wpAny _ X.A (assign (.Name x pos') X.env (.ref D)) _ _ _
 refine wpAny_assign_Name (ux (v := .ref D) I' hN hxi hx rfl (fun s'' I'' ⟨a, sb, ha⟩ => ?_) hfn)
 have hCa : C ≠ a := by
  rcases ha with z | z
  ·rw [z]; exact g2
  ·exact fun e => g5 x a z e.symm
 refine ⟨m, hm.sameBut sb hCa, fun h' hs' => ⟨_, _, I''.turned (t' := s''.toks) (fun b o hb e => (hs'.2 b hb).trans e) g1 g2 g4 g5 g6, fin D hD⟩⟩
end
theorem rP {lo : Int} {n : Nat} {tf : TT} {te : TE} {τ0 : St} {H : Hp} {Fin : List V → Hp → Prop} (f : Nat → V) (hn : n ≤ sizeLine)
  (hte : ∀ i H' Q, i < n → az H H' → (∀ H'', az H' H'' → Q (f i) H'') → tf (τ0.set 0 (some (.int (lo + i)))) H' fun b H3 => b = true ∧ te (τ0.set 0 (some (.int (lo + i)))) H3 Q)
  (mono : ∀ τ H Q Q', (∀ b H1, Q b H1 → Q' b H1) → tf τ H Q → tf τ H Q')
  (hfin : ∀ H', az H H' → Fin ((List.range n).map f) H') : pI (gY 0) tf te (Itr lo n) τ0 H Fin := by
 refine ⟨fun i m τ ys H' => m = n - i ∧ i ≤ n ∧ ys = (List.range i).map f ∧ az H H' ∧ ∃ v, τ = τ0.set 0 v ∨ τ = τ0, ⟨n, rfl, Nat.zero_le _, rfl, az.refl _, none, .inr rfl⟩, ?_⟩
 rintro i m τ ys H' ⟨rfl, hi, rfl, sm, v, hτ⟩
 by_cases hlt : i < n
 ·refine .inr ⟨hlt, fun x H'' y => ?_⟩
  obtain ⟨e, y⟩ := y
  subst e y
  have e2 : τ.set 0 (some (V.int (lo + i))) = τ0.set 0 (some (V.int (lo + i))) := by
   rcases hτ with rfl | rfl
   ·rw [List.set_set]
   ·rfl
  show tf (τ.set 0 (some (V.int (lo + i)))) H'' _
  rw [e2]
  refine mono _ _ _ _ ?_ (hte i H'' (fun y H4 => ((List.range i).map f).length < sizeLine ∧ ∃ m', m' < n - i ∧ (m' = n - (i + 1) ∧ i + 1 ≤ n ∧ (List.range i).map f ++ [y] = (List.range (i + 1)).map f ∧ az H H4 ∧ ∃ v, τ0.set 0 (some (V.int (lo + i))) = τ0.set 0 v ∨ τ0.set 0 (some (V.int (lo + i))) = τ0)) hlt sm fun H4 s4 => ?_)
  ·rintro b H1 ⟨rfl, q⟩
   rw [if_pos rfl]
   exact q
  ·refine ⟨by rw [List.length_map, List.length_range]; omega, n - (i + 1), by omega, rfl, hlt, by rw [List.range_succ, List.map_append]; rfl, sm.trans s4, _, .inl rfl⟩
 ·have e : i = n := by omega
  subst e
  exact .inl ⟨Nat.le_refl _, hfin H' sm⟩
theorem gh {c A B : Prop} [Decidable c] (h1 : c → A) (h2 : ¬ c → B) : if decide c = true then A else B := by
 by_cases h : c
 ·rw [if_pos (decide_eq_true h)]; exact h1 h
 ·rw [if_neg (by simpa using h)]; exact h2 h
theorem Kv {i j : Int} {A B : Prop} (h1 : i = j → A) (h2 : ¬ i = j → B) : if decide (V.int i = V.int j) = true then A else B :=
 gh (fun h => h1 (V.int.inj h)) fun h => h2 fun e => h (congrArg V.int e)
theorem Gz {x y : V} {A B : Prop} (e : x = y) (h : B) : if (!decide (x = y)) = true then A else B := by
 rw [if_neg (by simp [e])]; exact h
theorem az.new {H : Hp} {p : Addr} {o : HO} (h : H p = none) : az H (upd H p o) := fun b u e => by
 rw [aG (aF e h)]; exact e
theorem az.put {H H' : Hp} {p : Addr} {o : HO} (s : az H H') (h : H' p = none) : az H (upd H' p o) := s.trans (az.new h)
theorem az.over {H H' : Hp} {p : Addr} {o : HO} (s : az H H') (h : H p = none) : az H (upd H' p o) := fun b u e => by
 rw [aG (aF e h)]; exact s b u e
theorem az.lst {H H' : Hp} {p : Addr} {xs : List V} (s : az H H') (h : H p = some (.lst xs)) : H' p = some (.lst xs) := s _ _ h
structure FnAt (K : PySem.W.Frag) (mg : Str → Option Value) (x : Str) (st : Stmt) (ps : List Str) (f : Addr) (fd : FuncData) : Prop where
 F : Fun K x x st f fd
 b : Binds K fd ps []
 m : mg x = some (.ref f)
section
variable {X : Cx} {k : Nat} {f : Addr} {fd : FuncData} {ps : List Str} {sp : Sp} {x : Str} {st : Stmt} {p pos : Pos} {e : Expr} {es : List Expr} {t : TA}
theorem aV (A : FnAt X.K X.mg x st ps f fd) (G : aK X.prog X.w X.K X.mg X.base CX0 k f fd ps sp) (hr : aR k X.A) (ha : PA X (e :: es) t) (hg : Gl X x := by rfl)
  (hdb : (x == ("__debug__" : Str)) = false := by decide) (he : starEach (e :: es) X.env = (false, eval e X.env) :: starEach es X.env := by rfl) (hpl : (backTo pos (starEach es X.env)).any (·.1) = false := by rfl) :
  PE X (.Call (.Name x p) (e :: es) [] pos) (GK sp [] E0 t) := Fl G hr hg A.m A.F.kp A.b .nil pK ha hdb he hpl
end
def Pur (v : V) (H : Hp) (Q : VK) : Prop := ∀ H', az H H' → Q v H'
end L2
namespace Mine
open PySem PySem.Spec PyProof.Rows L2
def lK : Sp := fun vs H Q _ => ∃ (c k m : Int), vs = [.int c, .int k, .int m] ∧ 0 ≤ k ∧ k < 40 ∧ 0 < m ∧ Pur (.int (pick c k m)) H Q
end Mine
namespace L2
open PySem PySem.Spec PyProof.Rows
section
variable {X : Cx}
def Tz : V → Option Int → Option Int → Hp → VK → Prop := fun x lo hi H Q => ∃ z, x = .str z ∧ z.length ≤ sizeLine ∧ Q (.str (Txt.slice z lo hi)) H
theorem part_of {v : Value} {o : Option Int} (p : IsPart v o) : ∃ l : Option (Int × Tok), v = partValue l ∧ o = l.map (·.1) := by
 cases p with
 | none => exact ⟨none, rfl, rfl⟩
 | int i t => exact ⟨some (i, t), rfl, rfl⟩
theorem GZ : SlR X Tz := by
 intro pins s σ H x v vl vu lo hi sl Q I rx hs pl pu h
 obtain ⟨z, rfl, hz, q⟩ := h
 obtain ⟨t, rfl⟩ := rx
 obtain ⟨l, rfl, rfl⟩ := part_of pl
 obtain ⟨u, rfl, rfl⟩ := part_of pu
 obtain ⟨os, h1, h2, h3⟩ := hs
 refine ⟨"str", _, F.slot_str_getitem.lookup, typeIs_str _ _ _, ?_⟩
 exact wpAny_getItem_str_slice (l := l) (u := u) (st := none) ⟨os, h1, h2, h3⟩ rfl (post_val_or_str ⟨Nat.le_trans (Txt.slice_le z _ _) hz, fun t' k => ⟨.str _, H, I.tok k, ⟨t', rfl⟩, q⟩⟩)
def Its (z : Str) : It := ⟨fun i _ => i < z.cps.size, fun i H x H' => H' = H ∧ ∃ c, z.cps.toList[i]? = some c ∧ x = .str ⟨#[c]⟩, fun i _ => z.cps.size ≤ i⟩
theorem wR {P : Program} {w : World} {K : PySem.W.Frag} {tg : Expr} (it : Addr) (z : Str) (t : Tok) (ty : String)
  (hW : ∀ A : Around, A.handled = none → Walks P w A it [it] [it] z.cps.size (SignAt z) (fun i h => h.IsStrIter it ty z t i))
  (hn : ["enumerate", "zip", "dict_itemiterator", "dict_reverseitemiterator", "odict_iterator", "itertools.zip_longest", "itertools.pairwise"].contains ty = false)
  (hself : ∀ (A : Around) (i : Nat) (s : Shared) (Q : Value → Shared → Prop) (E : Value → Shared → Prop), s.heap.IsStrIter it ty z t i → Q (.ref it) s → wpAny (model P w) A (pyIter (.ref it)) Q E s) :
  Turn P w K tg (Its z) [it] it (fun i h => i ≤ z.cps.size ∧ h.IsStrIter it ty z t i) where
 mem := by simp
 obj := fun i h st b hb => by
  have e : b = it := by simpa using hb
  subst e
  obtain ⟨_, o, e, c, d⟩ := st
  exact ⟨o, e, fun v z => by rw [d] at z; cases z⟩
 keep := fun i h h' st k => by
  obtain ⟨hi, o, e, r⟩ := st
  exact ⟨hi, o, k it (by simp) o e, r⟩
 item := by
  intro X hP hw hK hc i pins s σ H E I hf st hg
  subst hP hw hK
  obtain ⟨f0, f1, f2, f3, f4, f5⟩ := hf it (by simp)
  refine (hW X.A (I.ok.hd hc)).item i s _ _ hg st.2 fun v h' tk hv st' kk => ?_
  obtain ⟨c, u, hx, rfl⟩ := hv
  have I1 : Inv X pins σ H { s with heap := h', toks := tk } := I.turned (fun b o hb e => kk b o (by simpa using hb) e) f0 f1 f3 f4 f5
  obtain ⟨o, e, hcl, d⟩ := id st'
  exact ⟨_, rfl, Ca (s := { s with heap := h', toks := tk }) e hcl d hn ⟨.str ⟨#[c]⟩, H, I1, ⟨u, rfl⟩, ⟨rfl, c, by simpa using hx, rfl⟩, ⟨hg, st'⟩, fun b hb => (hf b hb).1⟩⟩
 done := by
  intro X hP hw hK hc i pins s σ H E I hf st hg
  subst hP hw hK
  obtain ⟨f0, f1, f2, f3, f4, f5⟩ := hf it (by simp)
  obtain ⟨hi, st⟩ := st
  have e : i = z.cps.size := Nat.le_antisymm hi hg
  subst e
  exact (hW X.A (I.ok.hd hc)).done s _ _ st fun h' tk kk => ⟨rfl, I.turned (fun b o hb e => kk b o (by simpa using hb) e) f0 f1 f3 f4 f5⟩
 self := fun A i s Q E st h => hself A i s Q E st.2 h
def Ua (tl : TE) : TI := fun σ H R => tl σ H fun x H1 => ∃ z, x = .str z ∧ R (Its z) H1
theorem HS {tg l : Expr} {tl : TE} (hl : PE X l tl) : PI X tg l (Ua tl) := by
 intro pins s σ H R I h
 refine thn (hl pins s σ H _ I h) fun v s1 ⟨x, H1, I1, r1, q1⟩ => ?_
 obtain ⟨z, rfl, q⟩ := q1
 obtain ⟨t, rfl⟩ := r1
 have fin : ∀ (o : Obj) (b : Addr), b ∈ [s1.heap.objs.size] → rB X pins H1 b := fun o b hb => by
  have e : b = s1.heap.objs.size := by simpa using hb
  subst e
  exact I1.fpOk (Nat.le_refl _) (I1.hok.fresh (Nat.le_refl _))
 cases ha : z.cps.all (· < 128)
 ·refine wpAny_pyIter_wide ha ?_
  exact ⟨s1.heap.objs.size, [s1.heap.objs.size], _, _, H1, rfl, I1.kept (t' := s1.toks) fun b o e => Heap.get?_push_of_some _ e,
   wR _ z t "str_iterator" (fun A hA => Walks.strWide hA _ z t) (by decide) (fun A i s Q E st h => wpAny_pyIter_striter_wide st h), ⟨Nat.zero_le _, _, Heap.get?_push_size _ rfl, rfl, rfl⟩, fin default, q⟩
 ·refine wpAny_pyIter_ascii ha ?_
  exact ⟨s1.heap.objs.size, [s1.heap.objs.size], _, _, H1, rfl, I1.kept (t' := s1.toks) fun b o e => Heap.get?_push_of_some _ e,
   wR _ z t "str_ascii_iterator" (fun A hA => Walks.strAscii hA _ z t) (by decide) (fun A i s Q E st h => wpAny_pyIter_striter_ascii st h), ⟨Nat.zero_le _, _, Heap.get?_push_size _ rfl, rfl, rfl⟩, fin default, q⟩
theorem CN {z : Str} {te : TE} {τ0 : St} {H : Hp} {Fin : List V → Hp → Prop} (f : Nat → V) (hn : z.length ≤ sizeLine)
  (hte : ∀ c H' Q, c ∈ z.cps.toList → az H H' → (∀ H'', az H' H'' → Q (f c) H'') → te (τ0.set 0 (some (.str ⟨#[c]⟩))) H' Q)
  (hfin : ∀ H', az H H' → Fin (z.cps.toList.map f) H') : pI (gY 0) xr te (Its z) τ0 H Fin := by
 have hz : z.cps.size = z.cps.toList.length := by simp
 have hn' : z.cps.toList.length ≤ sizeLine := by rw [← hz]; exact hn
 refine ⟨fun i m τ ys H' => m = z.cps.size - i ∧ i ≤ z.cps.size ∧ ys = (z.cps.toList.take i).map f ∧ az H H' ∧ ∃ v, τ = τ0.set 0 v ∨ τ = τ0, ⟨z.cps.size, rfl, Nat.zero_le _, rfl, az.refl _, none, .inr rfl⟩, ?_⟩
 rintro i m τ ys H' ⟨rfl, hi, rfl, sm, v, hτ⟩
 by_cases hlt : i < z.cps.size
 ·refine .inr ⟨hlt, fun x H'' y => ?_⟩
  obtain ⟨e, c, hc, y⟩ := y
  subst e y
  have e2 : τ.set 0 (some (V.str ⟨#[c]⟩)) = τ0.set 0 (some (V.str ⟨#[c]⟩)) := by
   rcases hτ with rfl | rfl
   ·rw [List.set_set]
   ·rfl
  unfold gY xr
  rw [e2]
  dsimp only
  rw [if_pos rfl]
  refine hte c H'' _ (List.mem_of_getElem? hc) sm fun H4 s4 => ?_
  refine ⟨by rw [List.length_map, List.length_take]; omega, z.cps.size - (i + 1), by omega, rfl, hlt, ?_, sm.trans s4, _, .inl rfl⟩
  rw [List.take_add_one, hc, List.map_append]
  rfl
 ·have e : i = z.cps.size := by omega
  subst e
  exact .inl ⟨Nat.le_refl _, by have := hfin H' sm; rw [hz, List.take_length]; exact this⟩
theorem G5 {bs : List Bool} : ∀ {us : List Value} {i : Nat} {v : Value}, Vals (bs.map V.bl) us → us[i]? = some v → v = .bool (bs.getD i false) := by
 induction bs with
 | nil => intro us i v r h; rw [List.map_nil] at r; cases r; simp at h
 | cons b bs ih =>
  intro us i v r h
  rw [List.map_cons] at r
  cases r with
  | cons r1 r2 =>
   cases i with
   | zero =>
    have r1' : _ = Value.bool b := r1
    simp at h
    rw [← h, r1']
    rfl
   | succ i => exact ih r2 (by simpa using h)
theorem range_any (bs : List Bool) : (List.range bs.length).any (fun i => bs.getD i false) = bs.any id := by
 have e : (List.range bs.length).map (fun i => bs.getD i false) = bs := by
  apply List.ext_getElem
  ·simp
  ·intro i h1 h2
   simp [List.getD_eq_getElem?_getD, h2]
 conv => rhs; rw [← e]
 rw [List.any_map]; rfl
def Tc (K : PySem.W.Frag) (f : List Bool → Bool) : List V → Hp → VK → Prop := fun xs H Q => ∃ p bs, xs = [.ref p] ∧ SqL K H p (bs.map V.bl) ∧ Q (.bl (f bs)) H
end
section
variable {X : Cx} {K : PySem.W.Frag}
theorem sy (h : X.K = K) : MtR X "str.join" (rJoin K) := by subst h; exact vp
theorem sH (h : X.K = K) : SlR X (Mt K) := by subst h; exact iD
theorem Dm (h : X.K = K) : IxR X (Jj K) := by subst h; exact aX
theorem Gj (h : X.K = K) : IxR X (MJ K) := by subst h; exact xG
theorem Ds {tg l : Expr} {tl : TE} (h : X.K = K) (hl : PE X l tl) : PI X tg l (Gx K tl) := by subst h; exact bj hl
variable {o e : Expr} {es : List Expr} {to : TE} {t : TA} {name : Str} {apos cpos : Pos} {T id : String} {r : V → List V → Hp → VK → Prop}
theorem vd (h : X.K = K) (pa : PlainAttrs T) (slot : Slot T name id) (hty : typeOf (.builtin id) = pure (.type "method_descriptor")) (hm : MtR X id r) (ho : PE X o to) (ha : PA X (e :: es) t)
  (hbase : attributeBase o name X.env (eval o X.env) = eval o X.env := by rfl)
  (hfew : ((backTo cpos (starEach (e :: es) X.env)).all (fun x => !x.1) && (backToKw cpos (keywordEach [] X.env)).all (fun x => x.1.isSome)
   && decide ((e :: es).length + ([] : List Keyword).length + (if ([] : List Keyword).isEmpty then 0 else 1) < 30)) = true := by rfl)
  (hline : (apos.endLine == cpos.line) = true := by rfl) (hs : starEach (e :: es) X.env = (false, eval e X.env) :: starEach es X.env := by rfl) (hplain : (backTo cpos (starEach es X.env)).any (·.1) = false := by rfl) :
  PE X (.Call (.Attribute o name apos) (e :: es) [] cpos) (tBM K T r to t) := by
 subst h
 exact dD pa slot hty hm ho ha hbase hfew hline hs hplain
end
structure QS (X : Cx) (st : Stmt) (t : TS) : Prop where
 h : PS X st t
structure QSs (X : Cx) (st : List Stmt) (t : TS) : Prop where
 h : PSs X st t
section
variable {X : Cx} {st : Stmt} {rest : List Stmt} {t u : TS} {e : Expr} {te : TE} {pos : Pos}
theorem aQ : QSs X [] GF := ⟨uC⟩
theorem au (h1 : QS X st t) (h2 : QSs X rest u) : QSs X (st :: rest) (N6 t u) := ⟨gb h1.h h2.h⟩
theorem aB (h1 : QS X st t) : QSs X [st] t := ⟨oH h1.h⟩
theorem nW : QS X st Ec := ⟨Ck⟩
theorem bU (he : PE X e te) (hs : swapsWith e none pos.line X.env = pure false := by rfl) : QS X (.Expr e pos) (GQ te) := ⟨Eu he hs⟩
theorem aN (he : PE X e te) : QS X (.Return (some e) pos) (Oc te) := ⟨rn he⟩
theorem bz {c : Expr} {a b : List Stmt} {tc : TT} (hc : PT X c tc) (ha : QSs X a t) (hb : QSs X b u) : QS X (.If c a b pos) (Nu tc t u) := ⟨Be hc ha.h hb.h⟩
theorem cL {tg iter : Expr} {body : List Stmt} {wi : TI} {g : TG} {tb : TS} (hp : PassesOwn (model X.prog X.w) X.A X.env X.xe) (hc : X.calm = true) (hi : PI X tg iter wi) (hg : PG X tg g) (hb : QSs X body tb) (hs : ∀ x, foldedSetIterable iter X.env x = pure x := by intro _; rfl) : QS X (.For tg iter body [] pos) (PP wi g tb) := ⟨G7 hp hc hi hg hb.h hs⟩
theorem xX {tg : Expr} {g : TG} (he : PE X e te) (hg : PG X tg g) (hs : swapsWithSole [tg] e pos.line X.env = pure false := by rfl) (hw : swappedStores [tg] e X.env = pure none := by rfl)
  (h1 : (assignEach [tg] X.env).map (·.2) = [assign tg X.env] := by rfl) : QS X (.Assign [tg] e pos) (xN te g) := ⟨Hl he hg hs hw h1⟩
theorem aP {i : Nat} {x : Str} {pos' : Pos} (hN : X.N.Nodup) (hi : X.N[i]? = some x) (hx : Loc X.env.scope x) (he : PE X e te) (hs : swapsWith e (some (.Name x pos')) pos.line X.env = pure false := by rfl) (hf : X.fn x = true ∨ X.env.scope.names.lookup x = some .local := by first | exact .inl rfl | exact .inr rfl | assumption) :
  QS X (.Assign [.Name x pos'] e pos) (xN te (gY i)) := ⟨nq hN hi hx he hs hf⟩
end
section
variable {X : Cx} {N : List Str} {sc : Scope} {el tg src : Expr} {ifs : List Expr} {wi : TI} {g : TG} {tf : TT} {te : TE} {pos : Pos}
theorem jW (ix : List (Option Nat)) {i : Nat} {x : Str} {pos' spos : Pos} (hN : X.N.Nodup) (hxi : X.N[i]? = some x) (hx : Loc X.env.scope x) (hc : X.calm = true) (hb : lG X.env.scope X.N N ix sc = true) (hi : PI X tg src wi)
  (hg : ∀ cl C fp s H, PG (blk X N sc cl C fp s H) tg g) (hf : ∀ cl C fp s H, PF (blk X N sc cl C fp s H) ifs tf) (he : ∀ cl C fp s H, PE (blk X N sc cl C fp s H) el te)
  (hsw : swapsWith (.ListComp el [⟨tg, src, ifs, 0⟩] sc pos) (some (.Name x pos')) spos.line X.env = pure true := by rfl)
  (hfn : X.fn x = true ∨ X.env.scope.names.lookup x = some .local := by first | exact .inl rfl | exact .inr rfl | assumption)
  (hs : ∀ x, foldedSetIterable src X.env x = pure x := by intro _; rfl) : QS X (.Assign [.Name x pos'] (.ListComp el [⟨tg, src, ifs, 0⟩] sc pos) spos) (xN (Dw ix wi g tf te) (gY i)) :=
 ⟨Ep ix hN hxi hx hc hb hi hg hf he hsw hfn hs⟩
end
structure QA (X : Cx) (es : List Expr) (t : TA) : Prop where
 h : PA X es t
section
variable {X : Cx} {e : Expr} {es : List Expr} {te : TE} {t : TA} {pos : Pos}
theorem Cv : QA X [] Ho := ⟨aq⟩
theorem b8 (ha : PE X e te) (hr : QA X es t) (hs : starEach (e :: es) X.env = (false, eval e X.env) :: starEach es X.env := by rfl) : QA X (e :: es) (Gw te t) := ⟨ak ha hr.h hs⟩
theorem G6 (h : QA X es t) : PE X (.List es pos) (Im t) := bH h.h
end
structure QE (X : Cx) (e : Expr) (t : TE) : Prop where
 h : PE X e t
section
variable {X : Cx} {a b e : Expr} {ta tb te : TE} {es : List Expr} {t : TA} {pos : Pos}
theorem Eg (h : QA X es t) : QE X (.List es pos) (Im t) := ⟨bH h.h⟩
theorem JS {r : R2} (hr : IxR X r) (ha : QE X a ta) (hb : PE X b tb) (hs : yW b) : QE X (.Subscript a b pos) (tOp r ta tb) := ⟨bC hr ha.h hb hs⟩
theorem Gg {i : Nat} {x : Str} {pos' : Pos} (hN : X.N.Nodup) (hi : X.N[i]? = some x) (hx : Loc X.env.scope x) (he : QE X e te) (hs : swapsWith e (some (.Name x pos')) pos.line X.env = pure false := by rfl) (hf : X.fn x = true ∨ X.env.scope.names.lookup x = some .local := by first | exact .inl rfl | exact .inr rfl | assumption) :
  QS X (.Assign [.Name x pos'] e pos) (xN te (gY i)) := ⟨nq hN hi hx he.h hs hf⟩
end
section
variable {X : Cx} {x : Str} {pos : Pos}
theorem Gh {y : Int} (h : ∃ t, X.mg x = some (.int y t)) (hg : Gl X x := by rfl) (hd : (x == ("__debug__" : Str)) = false := by decide) : PE X (.Name x pos) (tC (.int y)) := by
 obtain ⟨t, e⟩ := h
 exact u9 hg e ⟨t, rfl⟩ hd
end
end L2
namespace Mine
open PySem PySem.Spec PyProof.Rows L2 PySem.Builtin PySem.Builtin.Str
theorem uN (a b : Str) : (a ++ b).length = a.length + b.length := by rw [eZ, eZ, eZ, cH, List.length_append]
theorem ik : 1000 ≤ sizeLine := by decide
end Mine
namespace L2
open PySem PySem.Spec PyProof.Rows
theorem gj {b : Bool} {A B : Prop} (e : b = true) (h : A) : if b = true then A else B := by rw [if_pos e]; exact h
theorem bA {b : Bool} {A B : Prop} (e : b = false) (h : B) : if b = true then A else B := by rw [if_neg (by rw [e]; decide)]; exact h
theorem vC {b : Bool} {A B : Prop} (e : b = true) (h : B) : if (!b) = true then A else B := by rw [if_neg (by rw [e]; decide)]; exact h
theorem yu {b : Bool} {A B : Prop} (e : b = false) (h : A) : if (!b) = true then A else B := by rw [if_pos (by rw [e]; decide)]; exact h
end L2
namespace Mine
open PySem PySem.Spec PyProof.Rows L2 PySem.Builtin PySem.Builtin.Str
theorem mK {ys : List Str} (h0 : ys ≠ []) (h : ∀ y ∈ ys, cX y) : ∃ c ∈ (dotted ys).cps.toList, 97 ≤ c ∧ c ≤ 122 := by
 cases ys with
 | nil => exact absurd rfl h0
 | cons y r =>
  have hy := h y List.mem_cons_self
  cases e : y.cps.toList with
  | nil => have := hy.lo; rw [eZ, e] at this; simp at this
  | cons c q =>
   have hc : c ∈ y.cps.toList := by rw [e]; simp
   refine ⟨c, ?_, hy.ok c hc⟩
   rw [cB, jL]
   obtain ⟨R, e1, _⟩ := mO 46 y.cps.toList (r.map (·.cps.toList))
   rw [List.map_cons, e1]
   exact List.mem_append_left _ hc
end Mine
namespace L2
open PySem PySem.Spec PyProof.Rows
inductive DEq (K : PySem.W.Frag) (H : Hp) : Nat → V → V → Prop where
 | non {n : Nat} : DEq K H n .non .non
 | bl {n : Nat} (b : Bool) : DEq K H n (.bl b) (.bl b)
 | int {n : Nat} (i : Int) : DEq K H n (.int i) (.int i)
 | str {n : Nat} (x : Str) : DEq K H n (.str x) (.str x)
 | same {n : Nat} (a : Addr) : DEq K H n (.ref a) (.ref a)
 | tup {n : Nat} {a b : Addr} {xs ys : List V} (ha : SqT K H a xs) (hb : SqT K H b ys) (hl : xs.length = ys.length) (h : ∀ (i : Nat) x y, xs[i]? = some x → ys[i]? = some y → DEq K H n x y) : DEq K H (n + 1) (.ref a) (.ref b)
 | lst {n : Nat} {a b : Addr} {xs ys : List V} (ha : SqL K H a xs) (hb : SqL K H b ys) (hl : xs.length = ys.length) (h : ∀ (i : Nat) x y, xs[i]? = some x → ys[i]? = some y → DEq K H n x y) : DEq K H (n + 1) (.ref a) (.ref b)
section
variable {X : Cx} {pins : List (Addr × Obj)} {σ : St} {H : Hp} {s : Shared}
theorem Vals.at {xs : List V} {us : List Value} (r : Vals xs us) {j : Nat} (h : j < us.length) : ∃ x, xs[j]? = some x ∧ RelV x us[j] := by
 have hl := r.length
 have hx : xs[j]? = some xs[j] := List.getElem?_eq_getElem (by omega)
 obtain ⟨u, hu, ru⟩ := r.get hx
 rw [List.getElem?_eq_getElem h] at hu
 cases hu
 exact ⟨_, hx, ru⟩
theorem jz (n : Nat) : (List.range n).all (fun _ => true) = true := by simp
theorem DEq.at (I : Inv X pins σ H s) {n : Nat} {x y : V} (d : DEq X.K H n x y) : ∀ {A : Around} {u v : Value}, A.units + n < cLine → RelV x u → RelV y v → SeqAt.EqAt A s u v true := by
 induction d with
 | non => intro A u v hu ru rv; cases ru; cases rv; exact SeqAt.EqAt.same _
 | bl b => intro A u v hu ru rv; cases ru; cases rv; exact SeqAt.EqAt.same _
 | int i =>
  intro A u v hu ru rv
  obtain ⟨t, rfl⟩ := ru
  obtain ⟨t', rfl⟩ := rv
  have := SeqAt.EqAt.int_int (A := A) (s := s) i t i t'
  rwa [beq_self_eq_true] at this
 | str x =>
  intro A u v hu ru rv
  obtain ⟨t, rfl⟩ := ru
  obtain ⟨t', rfl⟩ := rv
  have := SeqAt.EqAt.str_str (A := A) (s := s) x t x t'
  rwa [beq_self_eq_true] at this
 | same a => intro A u v hu ru rv; cases ru; cases rv; exact SeqAt.EqAt.same _
 | @tup n a b xs ys ha hb hl h ih =>
  intro A u v hu ru rv
  cases ru; cases rv
  by_cases hab : a = b
  ·subst hab; exact SeqAt.EqAt.same _
  ·obtain ⟨us, r1, p1, _⟩ := I.tuple ha
   obtain ⟨ws, r2, p2, _⟩ := I.tuple hb
   have l1 := r1.length
   have l2 := r2.length
   have := SeqAt.RcAt.tuples (A := A) (s := s) (e := fun _ => true) (show s.heap.IsTuple a us.toArray from p1) (show s.heap.IsTuple b ws.toArray from p2) (by omega) fun j h1 h2 => by
    have h1' : j < us.length := by simpa using h1
    have h2' : j < ws.length := by simpa using h2
    obtain ⟨x, ex, rx⟩ := r1.at h1'
    obtain ⟨y, ey, ry⟩ := r2.at h2'
    exact ih j x y ex ey (A := A.in1) (show A.units + 1 + n < cLine by omega) (by simpa using rx) (by simpa using ry)
   rw [jz, show (us.toArray.size == ws.toArray.size) = true from by simp; omega] at this
   exact SeqAt.EqAt.of_refs hab this
 | @lst n a b xs ys ha hb hl h ih =>
  intro A u v hu ru rv
  cases ru; cases rv
  by_cases hab : a = b
  ·subst hab; exact SeqAt.EqAt.same _
  ·obtain ⟨us, r1, p1, _⟩ := I.list ha
   obtain ⟨ws, r2, p2, _⟩ := I.list hb
   have l1 := r1.length
   have l2 := r2.length
   have := SeqAt.RcAt.lists (A := A) (s := s) (e := fun _ => true) p1.isList p2.isList (by simp; omega) (by omega) fun j h1 h2 => by
    have h1' : j < us.length := by simpa using h1
    have h2' : j < ws.length := by simpa using h2
    obtain ⟨x, ex, rx⟩ := r1.at h1'
    obtain ⟨y, ey, ry⟩ := r2.at h2'
    exact ih j x y ex ey (A := A.in1) (show A.units + 1 + n < cLine by omega) (by simpa using rx) (by simpa using ry)
   rw [jz] at this
   exact SeqAt.EqAt.of_refs hab this
def DSq (K : PySem.W.Frag) (H : Hp) (a b : Addr) : Prop := ∃ (n : Nat) (xs ys : List V), n ≤ 60 ∧ xs.length = ys.length ∧ ((SqT K H a xs ∧ SqT K H b ys) ∨ (SqL K H a xs ∧ SqL K H b ys)) ∧ ∀ (i : Nat) x y, xs[i]? = some x → ys[i]? = some y → DEq K H n x y
def Ng (K : PySem.W.Frag) (r : Bool) : R2 := fun x y H Q => ∃ a b, x = .ref a ∧ y = .ref b ∧ DSq K H a b ∧ Q (.bl r) H
theorem Hy {K : PySem.W.Frag} (hK : X.K = K) (hu : X.A.units + 64 < cLine) : OpR X (compareOp .Eq) (Ng K true) := by
 subst hK
 intro pins s σ H x y v u Q I rx ry h
 obtain ⟨a, b, rfl, rfl, ⟨n, xs, ys, hn, hl, hs, hd⟩, q⟩ := h
 cases rx; cases ry
 have fin : EP X pins σ Q (.bool true) s := ⟨.bl true, H, I, rfl, q⟩
 rcases hs with ⟨ha, hb⟩ | ⟨ha, hb⟩
 ·obtain ⟨us, r1, p1, _⟩ := I.tuple ha
  obtain ⟨ws, r2, p2, _⟩ := I.tuple hb
  have l1 := r1.length
  have l2 := r2.length
  refine SeqAt.eq_tupleAt (e := fun _ => true) (show s.heap.IsTuple a us.toArray from p1) (show s.heap.IsTuple b ws.toArray from p2) (by omega) (fun j h1 h2 => ?_) ?_
  ·have h1' : j < us.length := by simpa using h1
   have h2' : j < ws.length := by simpa using h2
   obtain ⟨x, ex, rx⟩ := r1.at h1'
   obtain ⟨y, ey, ry⟩ := r2.at h2'
   exact DEq.at I (hd j x y ex ey) (A := X.A.in1) (show X.A.units + 1 + n < cLine by omega) (by simpa using rx) (by simpa using ry)
  ·rw [jz, show (us.toArray.size == ws.toArray.size) = true from by simp; omega]
   exact fin
 ·obtain ⟨us, r1, p1, _⟩ := I.list ha
  obtain ⟨ws, r2, p2, _⟩ := I.list hb
  have l1 := r1.length
  have l2 := r2.length
  refine SeqAt.eq_listAt (e := fun _ => true) p1.isList p2.isList (by simp; omega) (by omega) (fun j h1 h2 => ?_) ?_
  ·have h1' : j < us.length := by simpa using h1
   have h2' : j < ws.length := by simpa using h2
   obtain ⟨x, ex, rx⟩ := r1.at h1'
   obtain ⟨y, ey, ry⟩ := r2.at h2'
   exact DEq.at I (hd j x y ex ey) (A := X.A.in1) (show X.A.units + 1 + n < cLine by omega) (by simpa using rx) (by simpa using ry)
  ·rw [jz]
   exact fin
theorem Ja {K : PySem.W.Frag} (hK : X.K = K) (hu : X.A.units + 64 < cLine) : OpR X (compareOp .NotEq) (Ng K false) := by
 subst hK
 intro pins s σ H x y v u Q I rx ry h
 obtain ⟨a, b, rfl, rfl, ⟨n, xs, ys, hn, hl, hs, hd⟩, q⟩ := h
 cases rx; cases ry
 have fin : EP X pins σ Q (.bool false) s := ⟨.bl false, H, I, rfl, q⟩
 rcases hs with ⟨ha, hb⟩ | ⟨ha, hb⟩
 ·obtain ⟨us, r1, p1, _⟩ := I.tuple ha
  obtain ⟨ws, r2, p2, _⟩ := I.tuple hb
  have l1 := r1.length
  have l2 := r2.length
  have := SeqAt.RcNeAt.tuples (A := X.A) (s := s) (e := fun _ => true) (show s.heap.IsTuple a us.toArray from p1) (show s.heap.IsTuple b ws.toArray from p2) (by omega) fun j h1 h2 => by
   have h1' : j < us.length := by simpa using h1
   have h2' : j < ws.length := by simpa using h2
   obtain ⟨x, ex, rx⟩ := r1.at h1'
   obtain ⟨y, ey, ry⟩ := r2.at h2'
   exact DEq.at I (hd j x y ex ey) (A := X.A.in1) (show X.A.units + 1 + n < cLine by omega) (by simpa using rx) (by simpa using ry)
  rw [jz, show (us.toArray.size == ws.toArray.size) = true from by simp; omega] at this
  exact this X.prog X.w X.xe _ fin
 ·obtain ⟨us, r1, p1, _⟩ := I.list ha
  obtain ⟨ws, r2, p2, _⟩ := I.list hb
  have l1 := r1.length
  have l2 := r2.length
  have := SeqAt.RcNeAt.lists (A := X.A) (s := s) (e := fun _ => true) p1.isList p2.isList (by simp; omega) (by omega) fun j h1 h2 => by
   have h1' : j < us.length := by simpa using h1
   have h2' : j < ws.length := by simpa using h2
   obtain ⟨x, ex, rx⟩ := r1.at h1'
   obtain ⟨y, ey, ry⟩ := r2.at h2'
   exact DEq.at I (hd j x y ex ey) (A := X.A.in1) (show X.A.units + 1 + n < cLine by omega) (by simpa using rx) (by simpa using ry)
  rw [jz] at this
  exact this X.prog X.w X.xe _ fin
end
section
variable {X : Cx} {K : PySem.W.Frag}
theorem oh {es : List Expr} {k : Nat} {t : TGs} {n : Nat} {pos : Pos} (hK : X.K = K) (hc : X.calm = true) (h : PGs X es t)
  (hn : (assignEach es X.env).length = n := by rfl) (hst : (assignEach es X.env).findIdx? (·.1) = none := by rfl) : PG X (.Tuple es k pos) (N5 K n t) := by subst hK; exact Hw hc h hn hst
end
section
variable {X : Cx} {K : PySem.W.Frag} {tg : Expr}
end
section
variable {X : Cx} {K : PySem.W.Frag}
theorem wF (hc : X.calm = true) : jE X (.builtin "any") (Tc X.K fun bs => bs.any id) := by
 intro pins s σ H xs us Q I r h
 obtain ⟨p, bs, rfl, hq, q⟩ := h
 obtain ⟨u, rfl, rx⟩ := vals1 r
 cases (show u = Value.ref p from rx)
 obtain ⟨its, rv, pl, hz⟩ := I.list hq
 have hlen := rv.length
 rw [List.length_map] at hlen
 have hne : p ≠ s.heap.objs.size := by
  obtain ⟨o, e, _⟩ := pl.isList
  exact Nat.ne_of_lt (Heap.lt_size e)
 refine call_any_walk (wpAny_pyIter_list pl.isList ?_)
 refine ⟨s.heap.objs.size, _, _, _, _, _, fun i => bs.getD i false, rfl, Walks.list (show X.A.in1.handled = none from I.ok.hd hc) s.heap.objs.size p hne its.toArray, ⟨⟨_, Heap.get?_push_size _ rfl, rfl, rfl⟩, ?_⟩, fun i v s' Q' E' hP hQ => ?_, fun h' tk kk => ?_⟩
 ·exact pl.isList.at fun o e => Heap.get?_push_of_some _ e
 ·have e := G5 rv (by simpa using hP)
  subst e
  exact wpAny_truthy_bool hQ
 ·have e : (List.range its.toArray.size).any (fun i => bs.getD i false) = bs.any id := by rw [List.size_toArray, ← hlen]; exact range_any bs
  rw [e]
  refine ⟨.bl _, H, I.kept fun b o e => ?_, rfl, q⟩
  exact kk b o (fun z => absurd (Heap.lt_size e) (by rw [List.mem_singleton.mp z]; exact Nat.lt_irrefl _)) (Heap.get?_push_of_some _ e)
end
theorem bV {K : PySem.W.Frag} {a : Addr} {xs : List V} {tf : TT} {te : TE} {τ0 : St} {H : Hp} {Fin : List V → Hp → Prop} (p : V → Bool) (hn : xs.length ≤ sizeLine) (hl : SqL K H a xs)
  (htf : ∀ x H' (Q : Bool → Hp → Prop), x ∈ xs → az H H' → (∀ H'', az H' H'' → Q (p x) H'') → tf (τ0.set 0 (some x)) H' Q)
  (hte : ∀ x H' (Q : VK), x ∈ xs → az H H' → (∀ H'', az H' H'' → Q x H'') → te (τ0.set 0 (some x)) H' Q)
  (hfin : ∀ H', az H H' → Fin (xs.filter p) H') : pI (gY 0) tf te (Itl K a) τ0 H Fin := by
 refine ⟨fun i m τ ys H' => m = xs.length - i ∧ i ≤ xs.length ∧ ys = (xs.take i).filter p ∧ az H H' ∧ ∃ v, τ = τ0.set 0 v ∨ τ = τ0, ⟨xs.length, rfl, Nat.zero_le _, rfl, az.refl _, none, .inr rfl⟩, ?_⟩
 rintro i m τ ys H' ⟨rfl, hi, rfl, sm, v, hτ⟩
 by_cases hlt : i < xs.length
 ·refine .inr ⟨⟨xs, xs[i], sm.seq hl, by simp [hlt]⟩, fun x H'' y => ?_⟩
  obtain ⟨e, y⟩ := y
  subst e
  have hx := y xs (sm.seq hl)
  have e2 : τ.set 0 (some x) = τ0.set 0 (some x) := by
   rcases hτ with rfl | rfl
   ·rw [List.set_set]
   ·rfl
  unfold gY
  rw [e2]
  have e3 : (xs.take (i + 1)).filter p = (xs.take i).filter p ++ (if p x = true then [x] else []) := by
   rw [List.take_add_one, hx, List.filter_append]
   congr 1
   show [x].filter p = _
   rw [List.filter_cons]
   rfl
  refine htf x H'' _ (List.mem_of_getElem? hx) sm fun H4 s4 => ?_
  cases hp : p x with
  | true =>
   rw [if_pos rfl]
   refine hte x H4 _ (List.mem_of_getElem? hx) (sm.trans s4) fun H5 s5 => ?_
   refine ⟨?_, xs.length - (i + 1), by omega, rfl, hlt, ?_, sm.trans (s4.trans s5), _, .inl rfl⟩
   ·have := List.length_filter_le p (xs.take i)
    rw [List.length_take] at this
    omega
   ·rw [e3, hp]; rfl
  | false =>
   rw [if_neg (by decide)]
   refine ⟨xs.length - (i + 1), by omega, rfl, hlt, ?_, sm.trans s4, _, .inl rfl⟩
   rw [e3, hp]; simp
 ·have e : i = xs.length := by omega
  subst e
  exact .inl ⟨⟨xs, sm.seq hl, Nat.le_refl _⟩, by have := hfin H' sm; rw [List.take_length]; exact this⟩
end L2
namespace Mine
open PySem PySem.Spec PyProof.Rows L2 PySem.Builtin PySem.Builtin.Str
inductive Thg where
 | num (m : Nat)
 | nms (c : Bool) (ys : List Str)
structure Trm where
 sg : Int
 th : Thg
def kindOf : Thg → Str
 | .num _ => "number"
 | .nms c _ => if c = true then "call" else "path"
structure zu (ys : List Str) : Prop where
 lo : ys ≠ []
 hi : ys.length ≤ 4
 nm : ∀ y ∈ ys, cX y
def HN : Thg → Prop
 | .num m => m < 10 ^ 20
 | .nms _ ys => zu ys
structure MT (t : Trm) : Prop where
 sg : t.sg = 1 ∨ t.sg = -1
 th : HN t.th
structure xY (ts : List Trm) : Prop where
 lo : ts ≠ []
 hi : ts.length ≤ 6
 ok : ∀ t ∈ ts, MT t
 hd : ∀ t, ts.head? = some t → t.sg = 1
theorem zu.len {ys : List Str} (h : zu ys) : (dotted ys).length ≤ 36 := by
 have h1 := xM ys
 have h2 : (ys.map (·.length)).sum ≤ ys.length * 8 := uD fun y hy => (h.nm y hy).hi
 have := h.hi
 omega
end Mine
namespace L2
open PySem PySem.Spec PyProof.Rows
theorem lU {lo : Int} {n : Nat} {te : TE} {τ0 : St} {H : Hp} {Fin : List V → Hp → Prop} (R : Nat → V → Hp → Prop) (hm : ∀ i v H' H'', R i v H' → az H' H'' → R i v H'') (hn : n ≤ sizeLine)
  (hte : ∀ (i : Nat) H' (Q : VK), i < n → az H H' → (∀ v H'', az H' H'' → R i v H'' → Q v H'') → te (τ0.set 0 (some (.int (lo + i)))) H' Q)
  (hfin : ∀ ys H', az H H' → ys.length = n → (∀ (i : Nat) v, ys[i]? = some v → R i v H') → Fin ys H') : pI (gY 0) xr te (Itr lo n) τ0 H Fin := by
 refine ⟨fun i m τ ys H' => m = n - i ∧ i ≤ n ∧ ys.length = i ∧ (∀ (j : Nat) v, ys[j]? = some v → R j v H') ∧ az H H' ∧ ∃ v, τ = τ0.set 0 v ∨ τ = τ0, ⟨n, rfl, Nat.zero_le _, rfl, fun j v h => by simp at h, az.refl _, none, .inr rfl⟩, ?_⟩
 rintro i m τ ys H' ⟨rfl, hi, hl, hr, sm, v, hτ⟩
 by_cases hlt : i < n
 ·refine .inr ⟨hlt, fun x H'' y => ?_⟩
  obtain ⟨e, y⟩ := y
  subst e y
  have e2 : τ.set 0 (some (V.int (lo + i))) = τ0.set 0 (some (V.int (lo + i))) := by
   rcases hτ with rfl | rfl
   ·rw [List.set_set]
   ·rfl
  unfold gY xr
  rw [e2]
  dsimp only
  rw [if_pos rfl]
  refine hte i H'' _ hlt sm fun v H4 s4 hv => ?_
  refine ⟨by omega, n - (i + 1), by omega, rfl, hlt, by rw [List.length_append, hl]; rfl, fun j u hj => ?_, sm.trans s4, _, .inl rfl⟩
  by_cases hji : j < ys.length
  ·rw [List.getElem?_append_left hji] at hj
   exact hm _ _ _ _ (hr j u hj) s4
  ·rw [List.getElem?_append_right (by omega)] at hj
   have hj0 : j - ys.length = 0 := by
    cases hh : j - ys.length with
    | zero => rfl
    | succ k => rw [hh] at hj; simp at hj
   rw [hj0] at hj
   have : j = i := by omega
   subst this
   have : v = u := by simpa using hj
   subst this
   exact hv
 ·have e : i = n := by omega
  subst e
  exact .inl ⟨Nat.le_refl _, hfin ys H' sm hl hr⟩
theorem fu {K : PySem.W.Frag} {a : Addr} {xs : List V} {te : TE} {τ0 : St} {H : Hp} {Fin : List V → Hp → Prop} (f : Nat → V) (hn : xs.length ≤ sizeLine) (hl : SqL K H a xs)
  (hte : ∀ (i : Nat) x H' (Q : VK), xs[i]? = some x → az H H' → (∀ H'', az H' H'' → Q (f i) H'') → te (τ0.set 0 (some x)) H' Q)
  (hfin : ∀ H', az H H' → Fin ((List.range xs.length).map f) H') : pI (gY 0) xr te (Itl K a) τ0 H Fin := by
 refine ⟨fun i m τ ys H' => m = xs.length - i ∧ i ≤ xs.length ∧ ys = (List.range i).map f ∧ az H H' ∧ ∃ v, τ = τ0.set 0 v ∨ τ = τ0, ⟨xs.length, rfl, Nat.zero_le _, rfl, az.refl _, none, .inr rfl⟩, ?_⟩
 rintro i m τ ys H' ⟨rfl, hi, rfl, sm, v, hτ⟩
 by_cases hlt : i < xs.length
 ·refine .inr ⟨⟨xs, xs[i], sm.seq hl, by simp [hlt]⟩, fun x H'' y => ?_⟩
  obtain ⟨e, y⟩ := y
  subst e
  have hx := y xs (sm.seq hl)
  have e2 : τ.set 0 (some x) = τ0.set 0 (some x) := by
   rcases hτ with rfl | rfl
   ·rw [List.set_set]
   ·rfl
  unfold gY xr
  rw [e2]
  dsimp only
  rw [if_pos rfl]
  refine hte i x H'' _ hx sm fun H4 s4 => ?_
  exact ⟨by rw [List.length_map, List.length_range]; omega, xs.length - (i + 1), by omega, rfl, hlt, by rw [List.range_succ, List.map_append]; rfl, sm.trans s4, _, .inl rfl⟩
 ·have e : i = xs.length := by omega
  subst e
  exact .inl ⟨⟨xs, sm.seq hl, Nat.le_refl _⟩, hfin H' sm⟩
end L2
namespace Mine
open PySem PySem.Spec PyProof.Rows L2 PySem.Builtin PySem.Builtin.Str
def Gf (H : Hp) (x : V) : Thg → Prop
 | .num m => x = .int ((m : Nat) : Int)
 | .nms _ ys => ∃ q, x = .ref q ∧ H q = some (.tup (ys.map V.str))
def tH (H : Hp) (v : V) (t : Trm) : Prop := ∃ p x, v = .ref p ∧ H p = some (.tup [.int t.sg, .str (kindOf t.th), x]) ∧ Gf H x t.th
def iz (H : Hp) (l : Addr) (ts : List Trm) : Prop := ∃ xs, H l = some (.lst xs) ∧ xs.length = ts.length ∧ ∀ (i : Nat) x, xs[i]? = some x → ∃ t, ts[i]? = some t ∧ tH H x t
theorem Gf.same {H H' : Hp} {x : V} {th : Thg} (h : Gf H x th) (s : az H H') : Gf H' x th := by
 cases th with
 | num m => exact h
 | nms c ys => obtain ⟨q, e, hq⟩ := h; exact ⟨q, e, s _ _ hq⟩
theorem tH.same {H H' : Hp} {v : V} {t : Trm} (h : tH H v t) (s : az H H') : tH H' v t := by
 obtain ⟨p, x, e, hp, hx⟩ := h
 exact ⟨p, x, e, s _ _ hp, hx.same s⟩
theorem iz.same {H H' : Hp} {l : Addr} {ts : List Trm} (h : iz H l ts) (s : az H H') : iz H' l ts := by
 obtain ⟨xs, hl, hn, hx⟩ := h
 refine ⟨xs, s _ _ hl, hn, fun i x e => ?_⟩
 obtain ⟨t, ht, tm⟩ := hx i x e
 exact ⟨t, ht, tm.same s⟩
theorem tH.upd {H : Hp} {v : V} {t : Trm} {l : Addr} {ys : List V} {o : HO} (h : tH H v t) (hl : H l = some (.lst ys)) : tH (upd H l o) v t := by
 obtain ⟨p, x, e, hp, hx⟩ := h
 refine ⟨p, x, e, by rw [aG (eX hp hl (by intro z; cases z))]; exact hp, ?_⟩
 cases hth : t.th with
 | num m => rw [hth] at hx; exact hx
 | nms c zs =>
  rw [hth] at hx
  obtain ⟨q, e, hq⟩ := hx
  exact ⟨q, e, by rw [aG (eX hq hl (by intro z; cases z))]; exact hq⟩
theorem fZ {α β : Type} (P : Nat → α → β → Prop) : ∀ (ys : List α) (k : Nat), (∀ (i : Nat) v, ys[i]? = some v → ∃ t, P (k + i) v t) → ∃ ts : List β, ts.length = ys.length ∧ ∀ (i : Nat) v, ys[i]? = some v → ∃ t, ts[i]? = some t ∧ P (k + i) v t
 | [], k, _ => ⟨[], rfl, fun i v h => by simp at h⟩
 | y :: ys, k, h => by
  obtain ⟨t0, h0⟩ := h 0 y rfl
  obtain ⟨ts, hl, ht⟩ := fZ P ys (k + 1) fun i v e => by
   have := h (i + 1) v (by simpa using e)
   rwa [show k + (i + 1) = k + 1 + i from by omega] at this
  refine ⟨t0 :: ts, by simp [hl], fun i v e => ?_⟩
  cases i with
  | zero => cases e; exact ⟨t0, rfl, h0⟩
  | succ i =>
   obtain ⟨t, e2, p⟩ := ht i v (by simpa using e)
   refine ⟨t, by simpa using e2, ?_⟩
   rwa [show k + (i + 1) = k + 1 + i from by omega]
end Mine
namespace L2
open PySem PySem.Spec PyProof.Rows PySem.W
section
variable {X : Cx} {x : Str} {pos : Pos}
theorem Tv {y : Addr} (h : X.mg x = some (.ref y)) (hg : Gl X x := by rfl) (hd : (x == ("__debug__" : Str)) = false := by decide) : PE X (.Name x pos) (tC (.ref y)) := u9 hg h rfl hd
def Ij (K : Frag) : List V → Hp → VK → Prop := fun xs H Q => ∃ x t c b, xs = [x, .ref c] ∧ mC K H x t ∧ kitOne K t (.ref c) = some b ∧ Q (.bl b) H
theorem yz : jE X (.builtin "isinstance") (Ij X.K) := by
 intro pins s σ H xs us Q I r h
 obtain ⟨x, t, c, b, rfl, ty, e, q⟩ := h
 obtain ⟨u, u2, rfl, rx, ry⟩ := vals2 r
 cases (show u2 = Value.ref c from ry)
 exact uc I rx ty e fun tk => ⟨.bl b, H, I.tok tk, rfl, q⟩
end
structure RCl (K : Frag) (C : Addr) : Prop where
 cl : Cls K C
 ha : findIn K (.ref C) "__class__" = some (some (.builtin "object.__class__"))
 hn : specialIn K (.builtin "object.__class__") "__get__" = some (some (.builtin "getset_descriptor.__get__"))
 htk : takesIn K (.builtin "object.__class__") = some true
 hm : mroIn K C (.type "object") = some true
theorem RCl.ty {K : Frag} {C a dx : Addr} {H : Hp} {fs : List (Str × V)} (c : RCl K C) (e : H a = some (.ins C dx fs)) : mC K H (.ref a) (.ref C) := .ins e c.cl c.ha c.hn c.htk c.hm
structure MkN (K : Frag) (C : Addr) : Prop where
 makes : makesIn K C = true
 init : findIn K (.ref C) "__init__" = some (some (.builtin "object.__init__"))
 kp : keepIn K (.ref C) = true
section
variable {X : Cx} {C : Addr} {x : Str} {p pos : Pos}
end
section
variable {X : Cx} {C f : Addr} {k : Nat} {fd : FuncData} {ps : List Str} {sp : Sp} {x : Str} {p pos : Pos} {e : Expr} {es : List Expr} {t : TA}
theorem nH (M : Mk X.K C f) (b : Binds X.K fd ps []) (G : aK X.prog X.w X.K X.mg X.base CX0 k f fd ps sp) (hr : aR (k + 1) X.A) (hm : X.mg x = some (.ref C)) (ha : PA X (e :: es) t) (hg : Gl X x := by rfl)
  (hdb : (x == ("__debug__" : Str)) = false := by decide) (he : starEach (e :: es) X.env = (false, eval e X.env) :: starEach es X.env := by rfl) (hpl : (backTo pos (starEach es X.env)).any (·.1) = false := by rfl) :
  PE X (.Call (.Name x p) (e :: es) [] pos) (Gk C sp [] E0 t) := Ga M G hr hg hm b .nil pK ha hdb he hpl
end
def VM (P : Program) (w : World) (K : Frag) (mg : Str → Option Value) (base : Heap) (k : Nat) (C : Addr) (m : Str) (sp : Sp) : Prop := ∃ f fd ps, Meth K C m f ∧ aK P w K mg base CX0 k f fd ps sp ∧ Binds K fd ps []
def MV (P : Program) (w : World) (K : Frag) (mg : Str → Option Value) (base : Heap) (k : Nat) (m : Str) (x : V) (H : Hp) (Q : VK) : Prop :=
 ∃ a C dx fs sp, x = .ref a ∧ H a = some (.ins C dx fs) ∧ fs.lookup m = none ∧ Cls K C ∧ VM P w K mg base k C m sp ∧ sp [x] H Q E0
def HW (P : Program) (w : World) (K : Frag) (mg : Str → Option Value) (base : Heap) (k : Nat) (m : Str) (ta : TE) : TE := fun σ H Q => ta σ H fun x H1 => MV P w K mg base k m x H1 Q
section
variable {X : Cx} {P : Program} {w : World} {K : Frag} {mg : Str → Option Value} {base : Heap} {k : Nat} {m : Str} {o : Expr} {ta : TE} {pos apos : Pos}
theorem wQ {pl : Sem Bool} (h1 : X.prog = P) (h2 : X.w = w) (h3 : X.K = K) (h4 : X.mg = mg) (h5 : X.base = base) (hr : aR k X.A) (he : PE X o ta)
  (ht : eval (.Call (.Attribute o m apos) [] [] pos) X.env = (do
   let ov ← eval o X.env
   standAt apos.atName
   let (f, first) ← holding [ov] (getMethod ov m pl)
   callWith pos f first (backTo pos (starEach [] X.env)) (backToKw pos (keywordEach [] X.env))) := by rfl) :
  PE X (.Call (.Attribute o m apos) [] [] pos) (HW P w K mg base k m ta) := by
 subst h1 h2 h3 h4 h5
 intro pins s σ H Q I h
 refine PySem.W.methodCall_KW (pl := pl) (thn (he pins s σ H _ I h) fun u s1 hz => ?_) ht
 obtain ⟨x, H1, I1, rx, a, C, dx, fs, sp, ex, ea, l, c, ⟨f, fd, ps, hm, F, hb⟩, q⟩ := hz
 subst ex
 obtain rfl : u = Value.ref a := rx
 refine kY I1 ea c hm l ?_
 exact PySem.W.callWith_K0 (first := [.ref a]) I1.kIn hm.kp (vQ (us := [.ref a]) (vs := [.ref a]) (dvs := []) (ds := []) F hr hb .nil pK I1 (.cons rfl .nil) q)
end
section
variable {X : Cx} {o value : Expr} {f : Str} {pos pos' : Pos} {ta tv : TE}
theorem dI (ha : PE X o ta) (hv : PE X value tv) (hs : swapsWith value (some (.Attribute o f pos')) pos.line X.env = pure false := by rfl) : QS X (.Assign [.Attribute o f pos'] value pos) (Lh X.K ta tv f) := ⟨Hi ha hv hs⟩
end
structure MAt (K : Frag) (m q : Str) (st : Stmt) (ps : List Str) (f : Addr) (fd : FuncData) : Prop where
 F : Fun K m q st f fd
 b : Binds K fd ps []
theorem rdF {K : Frag} {H : Hp} {a C dx : Addr} {fs : List (Str × V)} {v : V} {f : Str} {q : V → Prop} (ha : H a = some (.ins C dx fs)) (c : Cls K C) (n : cz K C f) (l : fs.lookup f = some v) (h : q v) :
  ∃ a' C' dx' fs' v', V.ref a = .ref a' ∧ H a' = some (.ins C' dx' fs') ∧ Cls K C' ∧ cz K C' f ∧ fs'.lookup f = some v' ∧ q v' := ⟨a, C, dx, fs, v, rfl, ha, c, n, l, h⟩
theorem oX {p : Nat → Prop} (h0 : p 0) (h1 : p 1) (h2 : p 2) (h3 : p 3) (h4 : p 4) (h5 : p 5) (h6 : p 6) (i : Nat) (h : i ≤ 6) : p i := by
 cases i with
 | zero => exact h0
 | succ i => cases i with
  | zero => exact h1
  | succ i => cases i with
   | zero => exact h2
   | succ i => cases i with
    | zero => exact h3
    | succ i => cases i with
     | zero => exact h4
     | succ i => cases i with
      | zero => exact h5
      | succ i => cases i with
       | zero => exact h6
       | succ i => exact absurd h (by omega)
theorem jB {H : Hp} {p b : Addr} {o : HO} (h : upd H p o b = none) : H b = none ∧ b ≠ p := by
 unfold upd at h
 split at h
 ·cases h
 ·exact ⟨h, ‹_›⟩
theorem lkP {f : Str} {y : V} {fs : List (Str × V)} : (ju f y fs).lookup f = some y := by rw [je, if_pos rfl]
theorem lkN {f g : Str} {y : V} {fs : List (Str × V)} (h : ¬ g = f) : (ju f y fs).lookup g = fs.lookup g := by rw [je, if_neg h]
theorem xu {f : Str} {y : V} {fs : List (Str × V)} {n : Nat} (h : fs.length < n) : (ju f y fs).length < n + 1 := by have := lV f y fs; omega
def SameBut (x : Addr) (H H' : Hp) : Prop := ∀ b o, H b = some o → b ≠ x → H' b = some o
theorem sb3 {H : Hp} {x l : Addr} {o1 o2 o3 : HO} (hl : H l = none) : SameBut x H (upd (upd (upd H x o1) l o2) x o3) := fun b o e hb => by
 rw [aG hb, aG (aF e hl), aG hb]; exact e
theorem sb2 {H : Hp} {x l : Addr} {o1 o2 : HO} (hl : H l = none) : SameBut x H (upd (upd H l o1) x o2) := fun b o e hb => by
 rw [aG hb, aG (aF e hl)]; exact e
theorem aO {K : Frag} {C D : Addr} {b : Bool} (m : mroIn K C (.ref D) = some b) (sD : mroIn K D (.ref D) = some true) (o : mroIn K D (.type "object") = some true) (ty : typeIn K (.ref D) = some (.type "type")) : kitOne K (.ref C) (.ref D) = some b := by
 unfold kitOne
 by_cases e : (Value.ref C == Value.ref D) = true
 ·rw [if_pos e]
  have e' : C = D := by cases eq_of_beq e; rfl
  subst e'
  rw [m] at sD; exact sD.symm
 ·rw [if_neg e]
  cases h : clsIn K D with
  | none => unfold mroIn at o; rw [h] at o; cases o
  | some cd =>
   show (if ((clsIn K D).isSome && typeIn K (.ref D) == some (.type "type")) = true then mroIn K C (.ref D) else none) = _
   rw [h, ty, if_pos (by simp), m]
theorem qQ {K : Frag} {a : Addr} {xs : List V} {g : TG} {te : TE} {τ0 : St} {H : Hp} {Fin : List V → Hp → Prop} (S : St → Prop) (R : Nat → V → Hp → Prop) (hm : ∀ i v H' H'', R i v H' → az H' H'' → R i v H'') (hn : xs.length ≤ sizeLine) (hl : SqL K H a xs) (h0 : S τ0)
  (hte : ∀ (i : Nat) x τ H' (Q : St → V → Hp → Prop), xs[i]? = some x → az H H' → S τ → (∀ τ2 v H'', S τ2 → az H' H'' → R i v H'' → Q τ2 v H'') → g x τ H' fun τ2 H2 => te τ2 H2 fun y H4 => Q τ2 y H4)
  (hfin : ∀ ys H', az H H' → ys.length = xs.length → (∀ (i : Nat) v, ys[i]? = some v → R i v H') → Fin ys H') : pI g xr te (Itl K a) τ0 H Fin := by
 refine ⟨fun i m τ ys H' => m = xs.length - i ∧ i ≤ xs.length ∧ ys.length = i ∧ (∀ (j : Nat) v, ys[j]? = some v → R j v H') ∧ az H H' ∧ S τ, ⟨xs.length, rfl, Nat.zero_le _, rfl, fun j v h => by simp at h, az.refl _, h0⟩, ?_⟩
 rintro i m τ ys H' ⟨rfl, hi, hyl, hr, sm, hS⟩
 by_cases hlt : i < xs.length
 ·refine .inr ⟨⟨xs, xs[i], sm.seq hl, by simp [hlt]⟩, fun x H'' y => ?_⟩
  obtain ⟨e, y⟩ := y
  subst e
  have hx := y xs (sm.seq hl)
  have key := hte i x τ H'' (fun τ2 y H4 => ys.length < sizeLine ∧ ∃ m', m' < xs.length - i ∧ (m' = xs.length - (i + 1) ∧ i + 1 ≤ xs.length ∧ (ys ++ [y]).length = i + 1 ∧ (∀ (j : Nat) v, (ys ++ [y])[j]? = some v → R j v H4) ∧ az H H4 ∧ S τ2)) hx sm hS fun τ2 v H4 s2 s4 hv => by
   refine ⟨by omega, xs.length - (i + 1), by omega, rfl, hlt, by rw [List.length_append, hyl]; rfl, fun j u hj => ?_, sm.trans s4, s2⟩
   by_cases hji : j < ys.length
   ·rw [List.getElem?_append_left hji] at hj
    exact hm _ _ _ _ (hr j u hj) s4
   ·rw [List.getElem?_append_right (by omega)] at hj
    have hj0 : j - ys.length = 0 := by
     cases hh : j - ys.length with
     | zero => rfl
     | succ k => rw [hh] at hj; simp at hj
    rw [hj0] at hj
    have : j = i := by omega
    subst this
    have : v = u := by simpa using hj
    subst this
    exact hv
  exact key
 ·have e : i = xs.length := by omega
  subst e
  exact .inl ⟨⟨xs, sm.seq hl, Nat.le_refl _⟩, hfin ys H' sm hyl hr⟩
theorem len0 {α : Type} {us : List α} (h : us.length = 0) : us = [] := List.length_eq_zero_iff.mp h
theorem yG {α : Type} {us : List α} {n : Nat} (h : us.length = n + 1) : ∃ a r, us = a :: r ∧ r.length = n := by
 cases us with
 | nil => cases h
 | cons a r => exact ⟨a, r, rfl, Nat.succ.inj h⟩
theorem Lg {α : Type} {us : List α} (h : us.length = 1) : ∃ a, us = [a] := by
 obtain ⟨a, r, rfl, k⟩ := yG h
 exact ⟨a, by rw [len0 k]⟩
theorem Ky {α : Type} {us : List α} (h : us.length = 2) : ∃ a b, us = [a, b] := by
 obtain ⟨a, r, rfl, k⟩ := yG h
 obtain ⟨b, rfl⟩ := Lg k
 exact ⟨a, b, rfl⟩
theorem Lr {α : Type} {us : List α} (h : us.length = 3) : ∃ a b c, us = [a, b, c] := by
 obtain ⟨a, r, rfl, k⟩ := yG h
 obtain ⟨b, c, rfl⟩ := Ky k
 exact ⟨a, b, c, rfl⟩
theorem NB {α : Type} {us : List α} (h : us.length = 4) : ∃ a b c d, us = [a, b, c, d] := by
 obtain ⟨a, r, rfl, k⟩ := yG h
 obtain ⟨b, c, d, rfl⟩ := Lr k
 exact ⟨a, b, c, d, rfl⟩
end L2
namespace Mine
open PySem PySem.Spec PyProof.Rows L2 PySem.Builtin PySem.Builtin.Str
structure bW where
 so : Nat
 nm : Str
 ad : Str
 wd : Str
 ts : List Trm
def eE : Nat → Str
 | 0 => "let"
 | 1 => "deed"
 | 2 => "draw"
 | 3 => "late"
 | 4 => "take"
 | _ => "need"
structure cO (ys : List Str) : Prop where
 lo : ys ≠ []
 hi : ys.length ≤ 3
 nm : ∀ y ∈ ys, cX y
structure GoodR (r : bW) : Prop where
 so : r.so ≤ 5
 nm : r.so < 5 → cX r.nm
 no : r.so = 5 → r.nm = ""
 ad : ∃ ys, cO ys ∧ r.ad = dotted ys
 wd : cX r.wd
 ts : xY r.ts
 dd : r.so = 1 → ∀ t ∈ r.ts, ∀ ys, t.th ≠ .nms true ys
theorem cO.len {ys : List Str} (h : cO ys) : (dotted ys).length ≤ 36 := zu.len ⟨h.lo, Nat.le_trans h.hi (by decide), h.nm⟩
theorem GoodR.nl {r : bW} (h : GoodR r) : r.nm.length ≤ 8 := by
 rcases Nat.lt_or_ge r.so 5 with k | k
 ·exact (h.nm k).hi
 ·rw [h.no (by have := h.so; omega)]; decide
def dw (r : bW) : List Str := if r.so = 2 ∨ r.so = 3 ∨ r.so = 4 then [r.ad] else []
theorem abS {a b : Str} {m n : Nat} (ha : a.length ≤ m) (hb : b.length ≤ n) (h : m + n ≤ 1000 := by decide) : a.length + b.length ≤ sizeLine := Nat.le_trans (Nat.add_le_add ha hb) (Nat.le_trans h ik)
theorem alS {a b : Str} {m n : Nat} (ha : a.length ≤ m) (hb : b.length ≤ n) : (a ++ b).length ≤ m + n := by rw [uN]; exact Nat.add_le_add ha hb
def xT (H : Hp) (v : V) (lt : Addr) (r : bW) : Prop := ∃ p, v = .ref p ∧ H p = some (.tup [.str (eE r.so), .str r.nm, .str r.ad, .str r.wd, .ref lt]) ∧ iz H lt r.ts
structure EY (H : Hp) (fs : List (Str × V)) (l : Addr) (r : bW) : Prop where
 nm : r.so < 5 → fs.lookup ("name" : Str) = some (.str r.nm)
 tm : r.so = 0 ∨ r.so = 1 ∨ r.so = 5 → fs.lookup ("terms" : Str) = some (.ref l) ∧ iz H l r.ts
 ad : r.so = 2 ∨ r.so = 3 ∨ r.so = 4 → fs.lookup ("address" : Str) = some (.str r.ad)
 wd : r.so = 4 → fs.lookup ("word" : Str) = some (.str r.wd)
 nb : fs.lookup ("binds" : Str) = none
 na : fs.lookup ("asked" : Str) = none
 ns : fs.lookup ("said" : Str) = none
def cA (C : Nat → Addr) (H : Hp) (a l : Addr) (r : bW) : Prop := ∃ dx fs, H a = some (.ins (C r.so) dx fs) ∧ EY H fs l r
theorem EY.same {H H' : Hp} {fs : List (Str × V)} {l : Addr} {r : bW} (h : EY H fs l r) (s : az H H') : EY H' fs l r :=
 ⟨h.nm, fun k => ⟨(h.tm k).1, (h.tm k).2.same s⟩, h.ad, h.wd, h.nb, h.na, h.ns⟩
theorem cA.same {C : Nat → Addr} {H H' : Hp} {a l : Addr} {r : bW} (h : cA C H a l r) (s : az H H') : cA C H' a l r := by
 obtain ⟨dx, fs, e, f⟩ := h
 exact ⟨dx, fs, s _ _ e, f.same s⟩
theorem iz.upd {H : Hp} {l d : Addr} {ts : List Trm} {ys : List V} {o : HO} (h : iz H l ts) (hd : H d = some (.lst ys)) (hne : l ≠ d) : iz (upd H d o) l ts := by
 obtain ⟨xs, hl, hn, hx⟩ := h
 refine ⟨xs, by rw [aG hne]; exact hl, hn, fun i x e => ?_⟩
 obtain ⟨t, ht, tm⟩ := hx i x e
 exact ⟨t, ht, tm.upd hd⟩
theorem cA.upd {C : Nat → Addr} {H : Hp} {a l d : Addr} {r : bW} {ys : List V} {o : HO} (h : cA C H a l r) (hd : H d = some (.lst ys)) (hne : l ≠ d) : cA C (upd H d o) a l r := by
 obtain ⟨dx, fs, e, f⟩ := h
 exact ⟨dx, fs, by rw [aG (eX e hd (by intro z; cases z))]; exact e, f.nm, fun k => ⟨(f.tm k).1, (f.tm k).2.upd hd hne⟩, f.ad, f.wd, f.nb, f.na, f.ns⟩
theorem xT.upd {H : Hp} {v : V} {lt d : Addr} {r : bW} {ys : List V} {o : HO} (h : xT H v lt r) (hd : H d = some (.lst ys)) (hne : lt ≠ d) : xT (upd H d o) v lt r := by
 obtain ⟨p, e, hp, t⟩ := h
 exact ⟨p, e, by rw [aG (eX hp hd (by intro z; cases z))]; exact hp, t.upd hd hne⟩
theorem tH.but {H H' : Hp} {v : V} {t : Trm} {x C dx : Addr} {fs : List (Str × V)} (h : tH H v t) (hx : H x = some (.ins C dx fs)) (s : SameBut x H H') : tH H' v t := by
 obtain ⟨p, y, e, hp, hy⟩ := h
 refine ⟨p, y, e, s _ _ hp (eX hp hx (by intro z; cases z)), ?_⟩
 cases hth : t.th with
 | num m => rw [hth] at hy; exact hy
 | nms c zs =>
  rw [hth] at hy
  obtain ⟨q, e, hq⟩ := hy
  exact ⟨q, e, s _ _ hq (eX hq hx (by intro z; cases z))⟩
def pQ (i j : Nat) : Bool := decide (i = j) || decide (j = 6)
theorem Ea {i j : Nat} (hi : i ≤ 5) (hj : j ≤ 5) : decide (V.str (eE i) = V.str (eE j)) = pQ i j := by
 have k : ∀ i j : Fin 6, decide (V.str (eE i.val) = V.str (eE j.val)) = pQ i.val j.val := by decide +kernel
 exact k ⟨i, by omega⟩ ⟨j, by omega⟩
end Mine
namespace L2
open PySem PySem.Spec PyProof.Rows PySem.W
section
variable {X : Cx} {pos : Pos} {t : TS}
end
end L2
namespace Mine
open PySem PySem.Spec PyProof.Rows L2 PySem.Builtin PySem.Builtin.Str
end Mine
namespace En
open PySem PySem.Spec PyProof.Rows
section
variable {prog : Program} {w : World} {A : Around} {E : Value → Shared → Prop} {s : Shared}
theorem next_item {e j l : Addr} {i : Nat} {k : Int} {its : Array Value} {x old : Value} {Q : Option Value → Shared → Prop}
  (q1 : IsEnum s.heap e j k old) (q2 : s.heap.IsListIter j l i) (q3 : s.heap.IsList l its) (q4 : its[i]? = some x) (ne : e ≠ j)
  (kQ : ∀ h', IsEnumOut h' e j (k + 1) x s.heap.objs.size → h'.IsListIter j l (i + 1) → h'.get? s.heap.objs.size = some { cls := .type "tuple", data := .seq #[.int k s.toks, x] } →
   (∀ b o, b ≠ e → b ≠ j → s.heap.get? b = some o → h'.get? b = some o) → Q (some (.ref s.heap.objs.size)) { s with heap := h', toks := s.toks + 1 }) :
  wpAny (model prog w) A (pyNext (.ref e)) Q E s := by
 have ty : s.TypeIs (.ref e) "enumerate" := ⟨_, q1, rfl⟩
 unfold pyNext
 refine wpAny_bind (wpAny_attempt (wpAny_callSpecial?_slot (name := Str.ofString "__next__") ty F.slot_enumerate_next (wpAny_call_entry F.slot_enumerate_next ty F.entry_enumerate_next ?_ (F.args_enumerate_next_1 _))))
 obtain ⟨hp, g, d, tk, os⟩ := s
 show wpAny _ _ (field (.ref e) 2 >>= _) _ _ _
 refine wpAny_bind (wpAny_field q1 rfl (x := .ref j) rfl (wpAny_bind (wpAny_nextOf_list_item q2 q3 q4 fun h1 r1 z1 => ?_)))
 replace z1 : Heap.SameBut j hp h1 := z1
 have a1 : IsEnum h1 e j k old := (z1.2 e ne).trans q1
 show wpAny _ _ (field (.ref e) 3 >>= _) _ _ ⟨h1, g, d, tk, os⟩
 refine wpAny_bind (wpAny_field a1 rfl (x := rawInt k) rfl ?_)
 show wpAny _ _ (field (.ref e) 4 >>= _) _ _ ⟨h1, g, d, tk, os⟩
 refine wpAny_bind (wpAny_field a1 rfl (x := .none) rfl ?_)
 show wpAny _ _ (mkInt k >>= _) _ _ ⟨h1, g, d, tk, os⟩
 refine wpAny_bind (wpAny_mkInt ?_)
 show wpAny _ _ (setField (.ref e) 3 (rawInt (k + 1)) >>= _) _ _ ⟨h1, g, d, tk + 1, os⟩
 refine wpAny_bind (wpAny_setField_rec a1 (by simp) fun h2 a2 z2 => ?_)
 replace z2 : Heap.SameBut e h1 h2 := z2
 replace a2 : IsEnum h2 e j (k + 1) old := a2
 show wpAny _ _ (setField (.ref e) 4 .none >>= _) _ _ ⟨h2, g, d, tk + 1, os⟩
 refine wpAny_bind (wpAny_setField_rec a2 (by simp) fun h3 a3 z3 => ?_)
 replace z3 : Heap.SameBut e h2 h3 := z3
 replace a3 : IsEnum h3 e j (k + 1) old := a3
 show wpAny _ _ (newTuple [.int k tk, x] >>= _) _ _ ⟨h3, g, d, tk + 1, os⟩
 refine wpAny_bind (wpAny_newTuple ?_)
 have a4 : IsEnum (h3.push { cls := .type "tuple", data := .seq #[.int k tk, x] }) e j (k + 1) old := Heap.get?_push_of_some _ a3
 generalize hh : h3.push { cls := .type "tuple", data := .seq #[.int k tk, x] } = h4 at a4
 have sz : h3.objs.size = hp.objs.size := by rw [z3.1, z2.1, z1.1]
 have el : e < hp.objs.size := Heap.lt_size q1
 have t4 : h4.get? hp.objs.size = some { cls := .type "tuple", data := .seq #[.int k tk, x] } := by rw [← hh, ← sz]; exact Heap.get?_push_size _ rfl
 have k4 : ∀ b o, b ≠ e → b ≠ j → hp.get? b = some o → h4.get? b = some o := fun b o be bi hb => by
  rw [← hh]; exact Heap.get?_push_of_some _ (z3.extBut b o be (z2.extBut b o be (z1.extBut b o bi hb)))
 have r4 : h4.IsListIter j l (i + 1) := by
  rw [← hh]; obtain ⟨o, ho, r⟩ := (r1.extBut z2.extBut (Ne.symm ne)).extBut z3.extBut (Ne.symm ne); exact ⟨o, Heap.get?_push_of_some _ ho, r⟩
 show wpAny _ _ (Builtin.SmallTypes.ownedTupleIsFree (.ref e) >>= _) _ _ ⟨h4, g, d, tk + 1, os⟩
 rw [sz]
 clear hh a3 z3 a2 z2 a1 z1 r1 sz h3 h2 h1
 refine wpAny_bind ?_
 unfold Builtin.SmallTypes.ownedTupleIsFree
 refine wpAny_bind (wpAny_field a4 rfl (x := .none) rfl (wpAny_pure ?_))
 simp only [if_true]
 refine wpAny_bind (wpAny_rule (wpAny_bind (wpAny_field a4 rfl (x := old) rfl (wpAny_bind (wpAny_setField_rec a4 (by simp) fun h5 a5 z5 => ?_)))))
 replace z5 : Heap.SameBut e h4 h5 := z5
 replace a5 : IsEnum h5 e j (k + 1) x := a5
 show wpAny _ _ (Builtin.SmallTypes.ownedTupleHandOut (.ref e) (.ref hp.objs.size) >>= _) _ _ ⟨h5, g, d, tk + 1, os⟩
 refine wpAny_bind ?_
 unfold Builtin.SmallTypes.ownedTupleHandOut
 refine wpAny_bind (wpAny_setField_rec a5 (by simp) fun h6 a6 z6 => ?_)
 replace z6 : Heap.SameBut e h5 h6 := z6
 replace a6 : IsEnumOut h6 e j (k + 1) x hp.objs.size := a6
 refine wpAny_setField_rec a6 (by simp) fun h7 a7 z7 => ?_
 replace z7 : Heap.SameBut e h6 h7 := z7
 replace a7 : IsEnumOut h7 e j (k + 1) x hp.objs.size := a7
 refine wpAny_bind (wpAny_letGo (wpAny_pure ⟨_, rfl, wpAny_pure (kQ h7 a7 ?_ ?_ ?_)⟩))
 ·exact ((r4.extBut z5.extBut (Ne.symm ne)).extBut z6.extBut (Ne.symm ne)).extBut z7.extBut (Ne.symm ne)
 ·exact z7.extBut _ _ (Nat.ne_of_gt el) (z6.extBut _ _ (Nat.ne_of_gt el) (z5.extBut _ _ (Nat.ne_of_gt el) t4))
 ·exact fun b o be bi hb => z7.extBut b o be (z6.extBut b o be (z5.extBut b o be (k4 b o be bi hb)))
theorem next_end {e j l : Addr} {i : Nat} {k : Int} {its : Array Value} {old : Value} {Q : Option Value → Shared → Prop} (hh : A.handled = none)
  (q1 : IsEnum s.heap e j k old) (q2 : s.heap.IsListIter j l i) (q3 : s.heap.IsList l its) (q4 : its[i]? = none)
  (kQ : ∀ h', Heap.ExtBut j s.heap h' → Q none { s with heap := h' }) : wpAny (model prog w) A (pyNext (.ref e)) Q E s := by
 have ty : s.TypeIs (.ref e) "enumerate" := ⟨_, q1, rfl⟩
 unfold pyNext
 refine wpAny_bind (wpAny_attempt (wpAny_callSpecial?_slot (name := Str.ofString "__next__") ty F.slot_enumerate_next (wpAny_call_entry F.slot_enumerate_next ty F.entry_enumerate_next ?_ (F.args_enumerate_next_1 _))))
 show wpAny _ _ (field (.ref e) 2 >>= _) _ _ _
 refine wpAny_bind (wpAny_field q1 rfl (x := .ref j) rfl (wpAny_bind (wpAny_nextOf_list_end hh q2 q3 q4 fun h' x hx ho => ?_)))
 obtain ⟨o, ho, hc⟩ := ho
 exact wpAny_bind (wpAny_isInstance (T := "StopIteration") (b := true) ⟨o, ho, hc⟩ isSubtype_stop (wpAny_pure (kQ _ hx)))
end
end En
namespace L2
open PySem PySem.Spec PyProof.Rows
def Ite (K : PySem.W.Frag) (a : Addr) (k : Int) : It :=
 ⟨fun i H => ∃ xs x, SqL K H a xs ∧ xs[i]? = some x, fun i H v H' => ∃ p x, v = .ref p ∧ H p = none ∧ (∀ xs, SqL K H a xs → xs[i]? = some x) ∧ H' = upd H p (.tup [.int (k + i), x]), fun i H => ∃ xs, SqL K H a xs ∧ xs.length ≤ i⟩
theorem Ag {P : Program} {w : World} {K : PySem.W.Frag} {elts : List Expr} {x1 : Nat} {tpos : Pos} (a e j : Addr) (k : Int) (ne : e ≠ j) :
  Turn P w K (.Tuple elts x1 tpos) (Ite K a k) [e, j] e (fun i h => (∃ old, IsEnum h e j (k + i) old) ∧ h.IsListIter j a i) where
 mem := .head _
 obj := fun i h st c hc => by
  obtain ⟨⟨old, hz⟩, h1⟩ := st
  cases hc with
  | head => exact ⟨_, hz, fun v z => by cases z⟩
  | tail _ hc => cases hc with
   | head => obtain ⟨o, e, _, d⟩ := h1; exact ⟨o, e, fun v z => by rw [d] at z; cases z⟩
   | tail _ hc => cases hc
 keep := fun i h h' st k => by
  obtain ⟨⟨old, hz⟩, h1⟩ := st
  exact ⟨⟨old, k e (.head _) _ hz⟩, h1.at fun o e => k j (.tail _ (.head _)) o e⟩
 item := by
  intro X hP hw hK hc i pins s σ H E I hf st hg
  subst hP hw hK
  obtain ⟨xs, x, hq, hx⟩ := hg
  obtain ⟨⟨old, hz⟩, h1⟩ := st
  obtain ⟨us, rv, p, hsz⟩ := I.list hq
  obtain ⟨u, hu, ru⟩ := rv.get hx
  have lt : ∀ {c o}, s.heap.get? c = some o → c ≠ s.heap.objs.size := fun e => Nat.ne_of_lt (Heap.lt_size e)
  refine En.next_item hz h1 p.isList (x := u) (by simpa using hu) ne fun h' a1 a2 a3 hk => ?_
  refine ⟨_, rfl, wpAny_letOwnedTupleGo_enum a1 fun h'' hz' hs' => ?_⟩
  have hfr : H s.heap.objs.size = none := I.hok.fresh (Nat.le_refl _)
  have hT : h''.get? s.heap.objs.size = some { cls := .type "tuple", data := .seq #[.int (k + i) s.toks, u] } := (hs'.2 _ (Ne.symm (lt hz))).trans a3
  have kk : ∀ c o, c ≠ e → c ≠ j → s.heap.get? c = some o → h''.get? c = some o := fun c o q1 q2 e' => (hs'.2 c q1).trans (hk c o q1 q2 e')
  have fe := hf e (.head _)
  have fj := hf j (.tail _ (.head _))
  have hch : ∀ c, c ∉ [e, j] → c ≠ e ∧ c ≠ j := fun c hc => ⟨fun z => hc (z ▸ .head _), fun z => hc (z ▸ .tail _ (.head _))⟩
  have trk : ∀ c o, H c = some o → c ≠ e ∧ c ≠ j := fun c o q => ⟨(fun z => by rw [z, fe.1] at q; cases q), (fun z => by rw [z, fj.1] at q; cases q)⟩
  have I1 : Inv X pins σ (upd H s.heap.objs.size (.tup [.int (k + i), x])) { s with heap := h'', toks := s.toks + 1 } := by
   refine I.step (g' := s.gens) (d' := s.drawn) (t' := s.toks + 1) (ch := [e, j]) (fun c hc => ?_) (fun c o _ _ hc e' _ => ?_) (fun c o _ _ hc e' _ => ?_) (fun c o hc e' n => ?_) (fun c o hc e' => ?_) (fun c q e' => ?_) (fun c o q e' => ?_) (fun c q e' => ?_) (fun m hm => ?_) (fun c o e' => ?_) I.bare
   ·cases hc with
    | head => exact ⟨fe.2.2.2.1, fe.2.1, fe.2.2.2.2.1, fe.2.2.2.2.2⟩
    | tail _ hc => cases hc with
     | head => exact ⟨fj.2.2.2.1, fj.2.1, fj.2.2.2.2.1, fj.2.2.2.2.2⟩
     | tail _ hc => cases hc
   ·exact kk c o (hch c hc).1 (hch c hc).2 e'
   ·exact ⟨o.slots, kk c o (hch c hc).1 (hch c hc).2 e'⟩
   ·rw [aG (lt e')]; exact n
   ·exact ⟨o, kk c o (hch c hc).1 (hch c hc).2 e'⟩
   ·rw [aG (aF e' hfr)]; exact e'
   ·rw [aG (aF e' hfr)]; exact e'
   ·exact ⟨#[], by rw [aG (aF e' hfr), e']; simp⟩
   ·obtain ⟨o, es, ep, ho, r⟩ := hm
    exact ⟨o, es, ep, kk _ o (Ne.symm fe.2.1) (Ne.symm fj.2.1) ho, r⟩
   ·by_cases hcT : c = s.heap.objs.size
    ·subst hcT
     rw [ao] at e'
     cases e'
     exact ⟨by show 2 ≤ sizeLine; decide, [.int (k + i) s.toks, u], .cons ⟨_, rfl⟩ (.cons ru .nil), ⟨_, hT, rfl, _, rfl⟩⟩
    ·rw [aG hcT] at e'
     obtain ⟨q1, q2⟩ := trk c o e'
     refine (I.hok c o e').stay (fun d w' hd q => ?_) (fun d q => ?_) fun d w' q => ?_
     ·have : d ≠ e ∧ d ≠ j := by
       rcases hd with rfl | hd
       ·exact ⟨q1, q2⟩
       ·exact trk d _ hd
      exact kk d w' this.1 this.2 q
     ·rw [aG (aF q hfr)]; exact q
     ·rw [aG (aF q hfr)]; exact q
  refine ⟨.ref s.heap.objs.size, _, I1, rfl, ⟨s.heap.objs.size, x, rfl, hfr, fun zs hq' => by rw [I.list_inj hq' hq]; exact hx, rfl⟩, ?_, fun c hc => ?_⟩
  ·refine ⟨⟨u, ?_⟩, a2.at fun o q => (hs'.2 j (Ne.symm ne)).trans q⟩
   have := hz'
   rwa [show k + (i : Int) + 1 = k + ((i + 1 : Nat) : Int) from by omega] at this
  ·have hc0 := (hf c hc).1
   have hne : c ≠ s.heap.objs.size := by
    cases hc with
    | head => exact lt hz
    | tail _ hc => cases hc with
     | head => obtain ⟨_, q, _⟩ := h1; exact lt q
     | tail _ hc => cases hc
   rw [aG hne]; exact hc0
 done := by
  intro X hP hw hK hc i pins s σ H E I hf st hg
  subst hP hw hK
  obtain ⟨xs, hq, hend⟩ := hg
  obtain ⟨⟨old, hz⟩, h1⟩ := st
  obtain ⟨us, rv, p, hsz⟩ := I.list hq
  have l1 := rv.length
  refine En.next_end (I.ok.hd hc) hz h1 p.isList (by simp; omega) fun h' hk => ⟨rfl, ?_⟩
  have fj := hf j (.tail _ (.head _))
  exact I.turned (t' := s.toks) (fun b o hb q => hk b o hb q) fj.1 fj.2.1 fj.2.2.2.1 fj.2.2.2.2.1 fj.2.2.2.2.2
 self := fun A i s Q E st h => by
  obtain ⟨⟨old, hz⟩, _⟩ := st
  exact wpAny_pyIter_enum hz h
section
variable {X : Cx} {K : PySem.W.Frag}
def Nx (K : PySem.W.Frag) (k : Int) (ta : TA) : TI := fun σ H R => ta σ H fun vs H1 => ∃ a, vs = [.ref a] ∧ (∃ xs, SqL K H1 a xs) ∧ R (Ite K a k) H1
theorem Fg {a : Expr} {ta : TA} {p pos : Pos} {elts : List Expr} {x1 : Nat} {tpos : Pos} (hK : X.K = K) (hg : Gl X "enumerate") (hm : X.mg "enumerate" = none) (ha : PA X [a] ta) (hs : starEach [a] X.env = [(false, eval a X.env)] := by rfl) :
  PI X (.Tuple elts x1 tpos) (.Call (.Name "enumerate" p) [a] [] pos) (Nx K 0 ta) := by
 subst hK
 intro pins s σ H R I h
 refine Call_ (oU I hg hm boot_enumerate (PyProof.Rows.callWith_type1 (thn (ha pos pins s σ H _ I h) fun us s1 ⟨vs, H1, I1, r1, q1⟩ => ?_) (by rw [hs]; rfl) rfl))
 obtain ⟨a1, e, ⟨xs, hx⟩, q⟩ := q1
 subst e
 obtain ⟨u, rfl, rx⟩ := vals1 r1
 cases rx
 obtain ⟨vs1, _, p1, _⟩ := I1.list hx
 refine call_enumerate_list p1.isList fun h' z1 z2 z3 zk => ?_
 refine wpAny_pyIter_enum z1 ?_
 have I2 : Inv X pins σ H1 { s1 with heap := h' } := I1.kept (t' := s1.toks) zk
 refine ⟨_, [s1.heap.objs.size + 1, s1.heap.objs.size], _, _, H1, rfl, I2, Ag a1 _ _ 0 (Nat.succ_ne_self _), ⟨⟨_, z1⟩, z2⟩, fun c hc => ?_, q⟩
 have hle : s1.heap.objs.size ≤ c := by
  cases hc with
  | head => exact Nat.le_succ _
  | tail _ hc => cases hc with
   | head => exact Nat.le_refl _
   | tail _ hc => cases hc
 exact I1.fpOk hle (I1.hok.fresh hle)
end
end L2
namespace En
open PySem PySem.Spec PyProof.Rows
open AutoSeq1 (wpAny_loadPart')
section
variable {prog : Program} {w : World} {A : Around} {E : Value → Shared → Prop} {s : Shared}
end
end En
namespace L2
open PySem PySem.Spec PyProof.Rows
section
variable {X : Cx} {K : PySem.W.Frag}
end
theorem Dt {K : PySem.W.Frag} {a : Addr} {k : Int} {xs : List V} {g : TG} {tb : TS} {D : Ends} {σ : St} {H : Hp} (Pv : Nat → St → Hp → Prop) (h0 : Pv 0 σ H) (hl : ∀ i σ H, i ≤ xs.length → Pv i σ H → SqL K H a xs)
  (hs : ∀ (i : Nat) x p σ H, xs[i]? = some x → Pv i σ H → H p = none → g (.ref p) σ (upd H p (.tup [.int (k + i), x])) fun σ2 H2 => tb { D with nx := Pv (i + 1), ct := Pv (i + 1), bk := D.nx } σ2 H2) (hd : ∀ σ H, Pv xs.length σ H → D.nx σ H) :
  ∃ W : Nat → Nat → St → Hp → Prop, (∃ m, W 0 m σ H) ∧ ∀ i m σ H, W i m σ H →
   ((Ite K a k).stop i H ∧ D.nx σ H) ∨ ((Ite K a k).go i H ∧ ∃ N : St → Hp → Prop, (∀ σ' H', N σ' H' → ∃ m', m' < m ∧ W (i + 1) m' σ' H') ∧ ∀ x H', (Ite K a k).yld i H x H' → g x σ H' fun σ2 H2 => tb { D with nx := N, ct := N, bk := D.nx } σ2 H2) := by
 refine ⟨fun i m σ H => m = xs.length - i ∧ i ≤ xs.length ∧ Pv i σ H, ⟨xs.length, by simp, Nat.zero_le _, h0⟩, ?_⟩
 rintro i m σ H ⟨rfl, hi, p⟩
 have q := hl i σ H hi p
 by_cases hlt : i < xs.length
 ·refine .inr ⟨⟨xs, xs[i], q, by simp [hlt]⟩, Pv (i + 1), fun σ' H' p' => ⟨xs.length - (i + 1), by omega, rfl, hlt, p'⟩, fun x H' y => ?_⟩
  obtain ⟨p0, x0, rfl, hp, hx, rfl⟩ := y
  exact hs i x0 p0 σ _ (hx xs q) p hp
 ·have e : i = xs.length := by omega
  subst e
  exact .inl ⟨⟨xs, q, Nat.le_refl _⟩, hd σ H p⟩
section
variable {X : Cx} {e : Expr} {te : TE} {pos : Pos}
theorem pG {K : PySem.W.Frag} (h : X.K = K) : OpR X (compareOp .NotIn) (rIn K true) := by subst h; exact gO
end
section
variable {X : Cx}
end
theorem Dy (xs : List V) (k : Nat) : fB xs none (some (k : Int)) = xs.take k := by
 unfold fB
 rw [HT.sIx_none, HT.sIx_nat, List.drop_zero, Nat.sub_zero]
 by_cases h : k ≤ xs.length
 ·rw [Nat.min_eq_left h]
 ·rw [Nat.min_eq_right (by omega), List.take_length, List.take_of_length_le (by omega)]
theorem Fx {xs : List V} {n : Nat} (f : Nat → V) (hl : xs.length = n) (h : ∀ (i : Nat) v, xs[i]? = some v → v = f i) : xs = (List.range n).map f := by
 apply List.ext_getElem
 ·rw [List.length_map, List.length_range, hl]
 ·intro i h1 h2
  rw [h i _ (List.getElem?_eq_getElem h1)]
  simp
end L2
namespace Mine
open PySem PySem.Spec PyProof.Rows L2 PySem.Builtin PySem.Builtin.Str
def lQ (ks : List Int) : Str := ⟨(ks.map fun k => 97 + k.toNat).toArray⟩
def u6 (ks : List Int) : Prop := ∀ k ∈ ks, 0 ≤ k ∧ k < 26
theorem lL (ks : List Int) : (lQ ks).cps.toList = ks.map fun k => 97 + k.toNat := by simp [lQ]
theorem vB (ks : List Int) : (lQ ks).length = ks.length := by simp [lQ, Str.length]
theorem Gy {ks : List Int} (h1 : 1 ≤ ks.length) (h8 : ks.length ≤ 8) (h : u6 ks) : cX (lQ ks) := ⟨by rw [vB]; exact h1, by rw [vB]; exact h8, fun n hn => by
 rw [lL] at hn
 obtain ⟨k, hk, rfl⟩ := List.mem_map.mp hn
 have := h k hk
 omega⟩
theorem Fo (ks : List Int) : Txt.join ("" : Str) (ks.map fun k => (⟨#[97 + k.toNat]⟩ : Str)) = lQ ks := by
 rw [Cg]
 show glued _ _ = _
 rw [StrLaws.glued_eq_join]
 apply jU
 rw [lF, List.map_map, lL]
 induction ks with
 | nil => rfl
 | cons a r ih => simp only [List.map_cons, List.flatten_cons, ih] <;> rfl
theorem u6.take {ks : List Int} (h : u6 ks) (n : Nat) : u6 (ks.take n) := fun k hk => h k (List.mem_of_mem_take hk)
def xq (bs : List Int) : List Str := (List.range 8).map fun i => lQ (bs.take (i + 1))
theorem Ey {bs : List Int} (h : u6 bs) (hl : bs.length = 8) : ∀ z ∈ xq bs, cX z := fun z hz => by
 obtain ⟨i, hi, rfl⟩ := List.mem_map.mp hz
 have hi := List.mem_range.mp hi
 exact Gy (by rw [List.length_take]; omega) (by rw [List.length_take]; omega) (h.take _)
theorem lat {b : Int} (h0 : 0 ≤ b) (h1 : b < 26) : atI letters.cps.toList b = some (97 + b.toNat) := by
 have h := bu (yE h0 h1)
 rwa [show ((b.toNat : Nat) : Int) = b from by omega] at h
theorem nT {zs : List Str} {x : Str} (h : zs.Nodup) (hx : x ∉ zs) : (zs ++ [x]).Nodup := by
 refine List.pairwise_append.mpr ⟨h, List.pairwise_singleton _ _, fun a ha b hb => ?_⟩
 rw [List.mem_singleton.mp hb]
 exact fun e => hx (e ▸ ha)
theorem yt {ks : List Int} (h : ks.length ≤ 8) : ((ks.map fun k => (⟨#[97 + k.toNat]⟩ : Str)).map (·.length)).sum + (ks.map fun k => (⟨#[97 + k.toNat]⟩ : Str)).length * (("" : Str)).length ≤ 16777216 := by
 have h1 : ((ks.map fun k => (⟨#[97 + k.toNat]⟩ : Str)).map (·.length)).sum ≤ (ks.map fun k => (⟨#[97 + k.toNat]⟩ : Str)).length * 1 := uD fun y hy => by
  obtain ⟨k, _, rfl⟩ := List.mem_map.mp hy
  exact Nat.le_refl 1
 have h2 : (("" : Str)).length = 0 := by decide +kernel
 rw [h2]
 rw [List.length_map] at h1 ⊢
 omega
theorem pq {s : Str} {zs : List V} (h : V.str s ∈ zs) : inV (.str s) zs = true := by
 unfold inV
 rw [List.any_eq_true]
 exact ⟨_, h, by simp [eqV]⟩
end Mine
namespace L2
open PySem PySem.Spec PyProof.Rows PySem.W
abbrev bQ (C : Addr) (dx : Option Addr) (vs : Array Value) : Obj := { cls := .ref C, dict := dx, data := .fields vs }
section
variable {prog : Program} {w : World} {A : Around} {R : Result → Shared → Prop} {h : Heap} {g : Array GenState} {d : Drawn} {t : Nat} {os : OsState}
variable {nm q : Str} {C N : Addr} {f : Value} {bs bm bmB : List Value} {hdct : Bool} {sn : List Str} {sub : List Value} {ab : Bool} {col : Option Bool} {dd : Option Addr} {k0 k1 k2 k3 k5 : Option Value} {B newId initId : String}
theorem Bd (F : ExcBaseFacts B newId initId bmB) (T : OwnTail h bmB bm) {rest : List Value}
  (hC : h.get? C = some (excClassObj nm q C N bs bm hdct sn sub ab col dd k0 k1 k2 k3 k5 newId)) (hi : Looks (model prog w) h (typeLookup (.ref C) "__init__") (some f))
  (hb : ∀ self, Looks (model prog w) h (bindSpecial f self) (f, [self])) (hrest : rest.length ≤ sizeLine)
  (hq : codeAny (model prog w) (A.under (.builtin "type.__call__" ⟨.ref C :: rest, []⟩)) (.call f ⟨.ref (h.objs.size + 1) :: rest, []⟩) (InitBack (h.objs.size + 1) R)
   ⟨(h.push { cls := .type "tuple", data := .seq rest.toArray }).push (bQ C none #[.ref h.objs.size, .none, .none, .none, .bool false, .none]), g, d, t, os⟩) :
  codeAny (model prog w) A (.call (.ref C) ⟨rest, []⟩) R ⟨h, g, d, t, os⟩ := by
 have f1 := PySem.tc_lookup
 have f2 := PySem.tc_bind (.ref C)
 have hT : (⟨h, g, d, t, os⟩ : Shared).TypeIs (.ref C) "type" := ⟨_, hC, rfl⟩
 refine codeAny_of_tree ?_
 show wpAny _ _ (callAny (.ref C) _) _ _ _
 repeat (any_goals (first | assumption | with_reducible refine wpAny_loadPart_at hC ?_ | wp_step))
 refine ⟨rfl, ?_⟩
 refine codeAny_call_builtin_at (Code.quiet_builtin _ (by decide +kernel)) PySem.entry_typeCall (wpAny_check_type_call_sub hC ?_)
 repeat (first | with_reducible refine wpAny_loadPart_at hC ?_ | with_reducible refine wpAny_madeBy_exc hC ?_ | wp_step)
 refine codeAny_call_builtin_code (Code.quiet_builtin _ F.quiet) (wpAny_check_new_subT F T hC ?_)
 refine codeAny_exc_new_subT F T hC ?_ hrest
 show wpAny _ _ _ _ _ _
 have kp : ∀ b o, h.get? b = some o → ((h.push { cls := .type "tuple", data := .seq rest.toArray }).push { cls := .ref C, data := .fields #[.ref h.objs.size, .none, .none, .none, .bool false, .none] }).get? b = some o := fun b o e => Heap.get?_push_of_some _ (Heap.get?_push_of_some _ e)
 have hC₁ := kp _ _ hC
 have hget : ((h.push { cls := .type "tuple", data := .seq rest.toArray }).push { cls := .ref C, data := .fields #[.ref h.objs.size, .none, .none, .none, .bool false, .none] }).get? (h.objs.size + 1) = some { cls := .ref C, data := .fields #[.ref h.objs.size, .none, .none, .none, .bool false, .none] } := by heap_get
 have hcC : (Value.ref C :: bm).contains (.ref C) = true := by simp
 have t1 : Looks (model prog w) ((h.push { cls := .type "tuple", data := .seq rest.toArray }).push { cls := .ref C, data := .fields #[.ref h.objs.size, .none, .none, .none, .bool false, .none] }) (typeOf (.ref (h.objs.size + 1))) (.ref C) := (Looks.ld hget).andThen .now
 have s1 : Looks (model prog w) ((h.push { cls := .type "tuple", data := .seq rest.toArray }).push { cls := .ref C, data := .fields #[.ref h.objs.size, .none, .none, .none, .bool false, .none] }) (isSubtype (.ref C) (.ref C)) true := fun A' Q' E' s' k q' => by
  obtain ⟨h', g', d', tk', os'⟩ := s'
  refine wpAny_isSubtype_exc (k _ _ hC₁) ?_
  rw [hcC]
  exact q'
 have i1 := hi.keeps kp
 have b1 := (hb (.ref (h.objs.size + 1))).keeps kp
 show wpAny _ _ _ _ _ ⟨(h.push { cls := .type "tuple", data := .seq rest.toArray }).push { cls := .ref C, data := .fields #[.ref h.objs.size, .none, .none, .none, .bool false, .none] }, g, d, t, os⟩
 unfold isInstance callSpecial? specialOf
 repeat (first | with_reducible refine wpAny_call ?_ | lk)
 refine codeAny_mono hq fun r s' z => ?_
 rcases r with e | (v | _ | _ | _) <;> first | exact z | exact z.elim | skip
 obtain ⟨rfl, z⟩ := z
 exact wpAny_pure (wpAny_pure z)
theorem Aj (F : ExcBaseFacts B newId initId bmB) (T : OwnTail h bmB bm) {e : Addr} {dx : Option Addr} {t0 : Addr} {a1 a2 a3 a4 a5 v : Value}
  (hC : h.get? C = some (excClassObj nm q C N bs bm hdct sn sub ab col dd k0 k1 k2 k3 k5 newId)) (he : h.get? e = some { cls := .ref C, dict := dx, data := .fields #[.ref t0, a1, a2, a3, a4, a5] })
  (hq : ∀ h', (∀ b o, b ≠ e → h.get? b = some o → h'.get? b = some o) → h'.get? e = some { cls := .ref C, dict := dx, data := .fields #[.ref h.objs.size, a1, a2, a3, a4, a5] } → R (.ok (.ret .none)) ⟨h', g, d, t, os⟩) :
  codeAny (model prog w) A (.call (.builtin initId) ⟨[.ref e, v], []⟩) R ⟨h, g, d, t, os⟩ := by
 refine (codeAny_call_builtin F.init.plain F.initEntry (wpAny_check_init_subT F T hC he rfl ?_))
 wp_walk
 have hne : e ≠ h.objs.size := Nat.ne_of_lt (Heap.lt_size he)
 refine hq _ (fun b o hb ho => ?_) ?_
 ·rw [Heap.get?_update_other _ _ (Ne.symm hb)]
  exact Heap.get?_push_of_some _ ho
 ·rw [Heap.get?_update_self _ (Heap.get?_push_of_some _ he) rfl]
  rfl
theorem DP {E : Value → Shared → Prop} (F : ExcBaseFacts B newId initId bmB) (T : OwnTail h bmB bm) {e : Addr} {dx : Option Addr} {t0 : Addr} {a1 a2 a3 a4 a5 v : Value} {Q : Value → Shared → Prop}
  (hC : h.get? C = some (excClassObj nm q C N bs bm hdct sn sub ab col dd k0 k1 k2 k3 k5 newId)) (he : h.get? e = some { cls := .ref C, dict := dx, data := .fields #[.ref t0, a1, a2, a3, a4, a5] })
  (hq : ∀ h', (∀ b o, b ≠ e → h.get? b = some o → h'.get? b = some o) → h'.get? e = some { cls := .ref C, dict := dx, data := .fields #[.ref h.objs.size, a1, a2, a3, a4, a5] } → Q .none ⟨h', g, d, t, os⟩) :
  wpAny (model prog w) A (call (.builtin initId) [.ref e, v]) Q E ⟨h, g, d, t, os⟩ := by
 refine wpAny_call (Aj F T hC he fun h' k e' => ?_)
 exact hq h' k e'
end
section
variable {prog : Program} {w : World} {A : Around} {E : Value → Shared → Prop} {s : Shared} {K : Frag} {x C : Addr} {ox : Obj} {od : Option Obj} {name : Str} {expr : Bool} {Q : Value → Shared → Prop}
theorem FQ {v : Value} (X : K.In s.heap) (I : PySem.W.InstAt s.heap x ox C od) (hga : findIn K (.ref C) "__getattribute__" = some (some (.builtin "BaseException.__getattribute__"))) (hb : mroIn K C (.type "BaseException") = some true) (hk : findIn K (.ref C) "__getattr__" = some none)
  (hf : findObj K C od name = some (.value v)) (hh : handedIn v = true) (h : Q v { s with toks := s.toks + 1 }) : wpAny (model prog w) A (getAttr (.ref x) name expr) Q E s := by
 obtain ⟨hh', g, d, t, os⟩ := s
 have L0 := I.type (M := model prog w)
 have L1 := looks_findIn (M := model prog w) X hga
 have L2 := looks_find (M := model prog w) X I hf
 unfold getAttr getAttrBy
 refine wpAny_bind (wpAny_mkText (wpAny_holding (wpAny_bind (L0.at (wpAny_bind (L1.at ?_))))))
 have LH : Looks (model prog w) hh' (hookBefore (.ref C)) none := looks_hook X (by simp only [onTheHeap]; exact hk)
 have LB : Looks (model prog w) hh' (isInstance (.ref x) (.type "BaseException")) true := L0.andThen (looks_mroIn X hb)
 show wpAny _ _ (getAttrByItsOwn (.ref x) (.str name t) (.ref C) (.builtin "BaseException.__getattribute__") true expr) _ _ ⟨hh', g, d, t + 1, os⟩
 unfold getAttrByItsOwn
 refine wpAny_bind (LH.at (wpAny_bind (wpAny_attempt (wpAny_holding ?_))))
 have hx0 : (expr && onTheHeap (Value.builtin "BaseException.__getattribute__")) = false := by cases expr <;> rfl
 have f3 := F.excAttr_ValueError.ga.bind (.ref x)
 unfold callGetattribute
 rw [hx0]
 repeat (any_goals (first | assumption | wp_step))
 show codeAny (model prog w) A (Code.call (Value.builtin "BaseException.__getattribute__") ⟨[.ref x, .str name t], []⟩) _ _
 have hk1 : builtinKind "BaseException.__getattribute__" = some .slot := by decide +kernel
 have hs1 : splitId "BaseException.__getattribute__" = some ("BaseException", "__getattribute__") := by decide +kernel
 have hc : ∀ (A' : Around) (Q' : Unit → Shared → Prop) (E' : Value → Shared → Prop), Q' () ⟨hh', g, d, t + 1, os⟩ → wpAny (model prog w) A' (checkBuiltinCall "BaseException.__getattribute__" ⟨[.ref x, .str name t], []⟩) Q' E' ⟨hh', g, d, t + 1, os⟩ := fun A' Q' E' q' =>
  @check_slot (model prog w) A' E' ⟨hh', g, d, t + 1, os⟩ "BaseException.__getattribute__" "BaseException" "__getattribute__" (.ref x) [.str name t] [] Q' hk1 hs1 LB (F.args_bexc_ga (.ref x) (.str name t)) q'
 refine codeAny_call_builtin F.excAttr_ValueError.ga.plain F.entry_bexc_ga (hc _ _ _ ?_)
 unfold Builtin.«object.__getattribute__»
 repeat (first | with_reducible refine wpAny_bind (L0.at ?_) | with_reducible refine wpAny_bind (L2.at ?_) | wp_step)
 show wpAny _ _ (handedOut v) _ _ _
 rw [handedOut_of hh]; exact wpAny_pure h
end
section
variable {prog : Program} {w : World} {A : Around} {E : Value → Shared → Prop} {s : Shared} {K : Frag} {x C : Addr} {ox : Obj} {od : Option Obj} {name : Str} {expr : Bool} {Q : Value → Shared → Prop}
theorem Am (X : K.In s.heap) (I : PySem.W.InstAt s.heap x ox C od) (hga : findIn K (.ref C) "__getattribute__" = some (some (.builtin "BaseException.__getattribute__"))) (hb : mroIn K C (.type "BaseException") = some true) (hk : findIn K (.ref C) "__getattr__" = some none)
  (hf : findObj K C od "__class__" = some (.bind (.builtin "getset_descriptor.__get__") (.builtin "object.__class__"))) (hm : mroIn K C (.type "object") = some true) {Q : Option Value → Shared → Prop} (h : Q (some (.ref C)) { s with toks := s.toks + 1 }) : wpAny (model prog w) A (getAttr? (.ref x) "__class__") Q E s := by
 obtain ⟨hh', g, d, t, os⟩ := s
 have L0 := I.type (M := model prog w)
 have L1 := looks_findIn (M := model prog w) X hga
 have L2 := looks_find (M := model prog w) X I hf
 unfold getAttr? getAttrBy?
 refine wpAny_bind (wpAny_mkText (wpAny_bind (wpAny_attempt ?_)))
 unfold getAttrBy
 refine wpAny_holding (wpAny_bind (L0.at (wpAny_bind (L1.at ?_))))
 have LH : Looks (model prog w) hh' (hookBefore (.ref C)) none := looks_hook X (by simp only [onTheHeap]; exact hk)
 have LB : Looks (model prog w) hh' (isInstance (.ref x) (.type "BaseException")) true := L0.andThen (looks_mroIn X hb)
 show wpAny _ _ (getAttrByItsOwn (.ref x) (.str "__class__" t) (.ref C) (.builtin "BaseException.__getattribute__") false false) _ _ ⟨hh', g, d, t + 1, os⟩
 unfold getAttrByItsOwn
 refine wpAny_bind (LH.at (wpAny_bind (wpAny_attempt (wpAny_holding ?_))))
 have hx0 : (false && onTheHeap (Value.builtin "BaseException.__getattribute__")) = false := rfl
 have f3 := F.excAttr_ValueError.ga.bind (.ref x)
 unfold callGetattribute
 rw [hx0]
 repeat (any_goals (first | assumption | wp_step))
 show codeAny (model prog w) A (Code.call (Value.builtin "BaseException.__getattribute__") ⟨[.ref x, .str "__class__" t], []⟩) _ _
 have hk1 : builtinKind "BaseException.__getattribute__" = some .slot := by decide +kernel
 have hs1 : splitId "BaseException.__getattribute__" = some ("BaseException", "__getattribute__") := by decide +kernel
 have hc : ∀ (A' : Around) (Q' : Unit → Shared → Prop) (E' : Value → Shared → Prop), Q' () ⟨hh', g, d, t + 1, os⟩ → wpAny (model prog w) A' (checkBuiltinCall "BaseException.__getattribute__" ⟨[.ref x, .str "__class__" t], []⟩) Q' E' ⟨hh', g, d, t + 1, os⟩ := fun A' Q' E' q' =>
  @check_slot (model prog w) A' E' ⟨hh', g, d, t + 1, os⟩ "BaseException.__getattribute__" "BaseException" "__getattribute__" (.ref x) [.str "__class__" t] [] Q' hk1 hs1 LB (F.args_bexc_ga (.ref x) (.str "__class__" t)) q'
 refine codeAny_call_builtin F.excAttr_ValueError.ga.plain F.entry_bexc_ga (hc _ _ _ ?_)
 unfold Builtin.«object.__getattribute__»
 repeat (first | with_reducible refine wpAny_bind (L0.at ?_) | with_reducible refine wpAny_bind (L2.at ?_) | wp_step)
 refine class_get X I hm ?_
 repeat (first | exact h | wp_step)
theorem Ed (hcl : (clsIn K C).isSome = true) (hga : findIn K (.ref C) "__getattribute__" = some (some (.builtin "BaseException.__getattribute__"))) (hb : mroIn K C (.type "BaseException") = some true) (hk : findIn K (.ref C) "__getattr__" = some none)
  (hm : mroIn K C (.type "object") = some true) (hf : ∀ od, findObj K C od "__class__" = some (.bind (.builtin "getset_descriptor.__get__") (.builtin "object.__class__"))) :
  KitX K (.ref x) (.ref C) (fun h => ∃ ox od, PySem.W.InstAt h x ox C od) where
 ty := fun _ _ _ I => let ⟨_, _, I⟩ := I; I.type
 it := fun _ _ X _ => by
  obtain ⟨cdD, hcD⟩ := Option.isSome_iff_exists.mp hcl
  unfold clsIn at hcD
  split at hcD
  ·rename_i c' d' cd' sl' ho
   intro A' Q' E' s' k q
   unfold isType loadHead
   exact wpAny_bind (wpAny_loadPart (k _ _ (X _ _ ho)) (wpAny_pure q))
  ·cases hcD
 ne := fun h tp dd its n sl X htp => by
  obtain ⟨cdD, hcD⟩ := Option.isSome_iff_exists.mp hcl
  refine Bool.eq_false_iff.mpr fun q => ?_
  have e : C = tp := Value.ref.inj (beq_iff_eq.mp q)
  subst e
  unfold clsIn at hcD
  split at hcD
  ·rename_i c' d' cd' sl' ho
   have z := (X _ _ ho).symm.trans htp
   cases z
  ·cases hcD
 ca := fun X I k => let ⟨_, _, I⟩ := I; Am X I hga hb hk (hf _) hm k
end
end L2
namespace L2
open PySem PySem.Spec PyProof.Rows PySem.W Builtin Builtin.ObjectAttr
def cj : List Value → Bool
 | .ref _ :: r => cj r
 | l => l == [.type "ValueError", .type "Exception", .type "BaseException", .type "object"]
theorem m8 (c : Addr) (r : List Value) : cj (.ref c :: r) = cj r := by rw [cj]
theorem rC : ∀ {l : List Value}, cj l = true → (∃ c r, l = .ref c :: r) ∨ l = [.type "ValueError", .type "Exception", .type "BaseException", .type "object"]
 | .ref c :: r, _ => .inl ⟨c, r, rfl⟩
 | [], e => by cases e
 | .type n :: r, e => .inr (eq_of_beq (by unfold cj at e; exact e))
 | .none :: r, e => .inr (eq_of_beq (by unfold cj at e; exact e))
 | .bool _ :: r, e => .inr (eq_of_beq (by unfold cj at e; exact e))
 | .int _ _ :: r, e => .inr (eq_of_beq (by unfold cj at e; exact e))
 | .str _ _ :: r, e => .inr (eq_of_beq (by unfold cj at e; exact e))
 | .builtin _ :: r, e => .inr (eq_of_beq (by unfold cj at e; exact e))
 | .float _ _ :: r, e => .inr (eq_of_beq (by unfold cj at e; exact e))
 | .bytes _ _ :: r, e => .inr (eq_of_beq (by unfold cj at e; exact e))
 | .ellipsis :: r, e => .inr (eq_of_beq (by unfold cj at e; exact e))
 | .notImplemented :: r, e => .inr (eq_of_beq (by unfold cj at e; exact e))
theorem mH (self : Value) : ∀ {l : List Value}, cj l = true → refuseLoop self "__setattr__" l = pure ()
 | l, e => by
  rcases rC e with ⟨c, r, rfl⟩ | rfl
  ·rw [refuseLoop_ref]; exact mH self (l := r) (by rw [m8] at e; exact e)
  ·exact PySem.F.store_ValueError.passes self
termination_by l => l.length
theorem m7 : ∀ {l : List Value}, cj l = true → l.contains (.type "object") = true
 | l, e => by
  rcases rC e with ⟨c, r, rfl⟩ | rfl
  ·rw [List.contains_cons, m7 (l := r) (by rw [m8] at e; exact e), Bool.or_true]
  ·decide
termination_by l => l.length
def vL (K : Frag) (C : Addr) : Bool := (clsIn K C).any fun cd => cj cd.mro
section
variable {prog : Program} {w : World} {A : Around} {s : Shared} {K : Frag} {x C : Addr} {R : Result → Shared → Prop}
theorem Ak {ox : Obj} {od : Option Obj} {name : Str} {tk : Tok} {v : Value} {r : Option Value} (X : K.In s.heap) (I : InstAt s.heap x ox C od) (hp : vL K C = true) (ht : takerIn K C name = some r)
  (h : ∀ b, wpAny (model prog w) A.in1 (match r with | some a => Builtin.ObjectAttr.setByDescriptor a (.ref x) v | none => Builtin.ObjectAttr.storeInOwnDict (.ref x) (.ref C) (.str name tk) name v b)
   (fun fin s' => match fin with | .done f => R (.ok f) s' | .again c' => c'.quiet = true ∧ codeAny (model prog w) A c' R s') (fun e s' => R (.error e) s') s) :
  codeAny (model prog w) A (.call (.builtin "object.__setattr__") ⟨[.ref x, .str name tk, v], []⟩) R s := by
 have SF := PySem.F.store_object
 obtain ⟨cd, hc, ho⟩ := any_some hp
 have ne : cd.mro.isEmpty = false := by cases q : cd.mro with | nil => rw [q] at ho; cases ho | cons _ _ => rfl
 have sub : Looks (model prog w) s.heap (isInstance (.ref x) (.type "object")) true := I.type.andThen (looks_mroIn X (by unfold mroIn; rw [hc, Option.bind_some, if_neg (by rw [ne]; decide), m7 ho]))
 refine codeAny_call_builtin SF.slot.plain SF.entry (@check_slot (model prog w) _ _ s "object.__setattr__" "object" "__setattr__" (.ref x) [.str name tk, v] [] _ SF.kind SF.split sub (SF.args (.ref x) (.str name tk) v) ?_)
 obtain ⟨attr, ha, hr⟩ := Option.bind_eq_some_iff.mp ht
 have hm : Looks (model prog w) s.heap (mroOf (.ref C)) cd.mro := (looks_clsIn X hc).andThen .now
 have L3 : Looks (model prog w) s.heap (storeTaker? attr) r := by
  cases attr with
  | none => cases hr; exact .now
  | some a =>
   obtain ⟨b, hb, rfl⟩ := Option.map_eq_some_iff.mp hr
   refine (looks_takesIn X hb).andThen ?_
   cases b <;> exact .now
 rw [osa_eq, refuse_eq]
 refine wpAny_bind (wpAny_bind (I.type.here (wpAny_bind (hm.here ?_))))
 rw [mH _ ho]
 refine wpAny_pure (wpAny_bind (I.type.here (wpAny_bind ((looks_findIn X ha).here (wpAny_bind (L3.here ?_))))))
 exact h _
end
section
variable {prog : Program} {w : World} {A : Around} {E : Value → Shared → Prop} {s : Shared} {K : Frag} {x C : Addr} {name : Str} {v : Value} {vs : Array Value}
theorem Cy {Q : Unit → Shared → Prop} (X : K.In s.heap) (hx : s.heap.get? x = some (bQ C none vs))
  (hs : findIn K (.ref C) "__setattr__" = some (some (.builtin "object.__setattr__"))) (hp : vL K C = true) (ht : takerIn K C name = some none) (hh : hasDictIn K C = true)
  (h : ∀ h' t', (∀ b o, b ≠ x → s.heap.get? b = some o → h'.get? b = some o) → h'.get? x = some (bQ C (some s.heap.objs.size) vs) → h'.Ns1 s.heap.objs.size (fun y => if y = name then some v else none) →
   Q () { s with heap := h', toks := t' }) :
  wpAny (model prog w) A (setAttr (.ref x) name v) Q E s := by
 have I : InstAt s.heap x (bQ C none vs) C none := ⟨hx, rfl, rfl, True.intro⟩
 refine set_plain X I hs (Ak (s := { s with toks := s.toks + 1 }) (r := none) X I hp ht fun b => ?_)
 obtain ⟨cd, hc, hd'⟩ := any_some hh
 refine wpAny_bind (wpAny_pure (wpAny_bind (wpAny_bind (wpAny_loadPart hx (wpAny_bind (Looks.here (s := { s with toks := s.toks + 1 }) (looks_clsIn X hc) ?_))))))
 rw [hd']
 have hx₁ : (s.heap.push { cls := .type "dict", data := .dict #[] }).get? x = some (bQ C none vs) := Heap.get?_push_of_some _ hx
 have hxs : x ≠ s.heap.objs.size := Nat.ne_of_lt (Heap.lt_size hx)
 refine wpAny_bind (wpAny_alloc' ?_)
 refine wpAny_bind (wpAny_update' hx₁ ?_)
 refine wpAny_pure ?_
 have hgd : ((s.heap.push { cls := .type "dict", data := .dict #[] }).update x fun o => { cls := o.cls, dict := some s.heap.objs.size, data := o.data, slots := o.slots }).get? s.heap.objs.size
   = some { cls := .type "dict", data := .dict #[] } :=
  (Heap.get?_update_ne _ _ _ _ hxs.symm).trans (Heap.get?_push_at rfl rfl)
 have hnd : ((s.heap.push { cls := .type "dict", data := .dict #[] }).update x fun o => { cls := o.cls, dict := some s.heap.objs.size, data := o.data, slots := o.slots }).Ns s.heap.objs.size (fun _ => none) :=
  ⟨_, #[], _, hgd, rfl, fun e he => absurd he (by simp), fun _ => rfl⟩
 show wpAny _ _ (storeInDict s.heap.objs.size (.str name s.toks) name v) _ _ _
 unfold storeInDict newKeyGuard
 refine wpAny_bind (wpAny_pure (wpAny_bind (wpAny_nsSet1 (Heap.Ns1.of_empty hnd) fun h' hn' hs => ?_)))
 obtain ⟨oD, esD, epD, hoD, hdD, hcD⟩ := hn'.count (Within.cons name v Within.nil)
 refine wpAny_bind (wpAny_lookBehind hoD (by rw [hdD]; exact pastItsLine_dict (Nat.le_trans hcD (by rw [List.length_cons, List.length_nil, sizeLine_eq]; omega))) ?_)
 refine wpAny_pure (h _ _ (fun b ob hbx hb => ?_) ?_ hn')
 ·exact (hs.2 b (Nat.ne_of_lt (Heap.lt_size hb))).trans ((Heap.get?_update_ne _ _ _ _ hbx).trans (Heap.get?_push_of_some _ hb))
 ·exact (hs.2 x hxs).trans (Heap.get?_update_self _ hx₁ rfl)
end
end L2
namespace L2
open PySem PySem.Spec PyProof.Rows PySem.W
def ExO (fl : Bool) (x C : Addr) (dx : Option Addr) : HO := .ext fun h => ∃ t0 a1 a2 a3 a4 a5, h.get? x = some (bQ C dx #[.ref t0, a1, a2, a3, a4, a5]) ∧ (fl = true → a1 = .none)
def XdO (p : Addr) (fs : List (Str × V)) : HO := .ext fun h => ∃ mA, h.Ns1 p mA ∧ (∀ f, jr (fs.lookup f) (mA f)) ∧ Within mA (fs.map (·.1))
section
variable {P : Program} {w : World} {H : Hp} {h : Heap} {fl : Bool} {x p C : Addr} {dx : Option Addr} {fs : List (Str × V)}
theorem sE {t0 : Addr} {a1 a2 a3 a4 a5 : Value} (e : h.get? x = some (bQ C dx #[.ref t0, a1, a2, a3, a4, a5])) (hfl : fl = true → a1 = .none) : bI P w H h x (ExO fl x C dx) :=
 ⟨⟨_, _, _, _, _, _, e, hfl⟩, ⟨_, e⟩, fun h1 h2 ⟨t0, a1, a2, a3, a4, a5, q, z⟩ k => ⟨t0, a1, a2, a3, a4, a5, k _ q, z⟩⟩
theorem Hg {mA : Str → Option Value} (n : h.Ns1 p mA) (r : ∀ f, jr (fs.lookup f) (mA f)) (wi : Within mA (fs.map (·.1))) : bI P w H h p (XdO p fs) :=
 ⟨⟨mA, n, r, wi⟩, let ⟨o, _, _, e, _⟩ := n; ⟨o, e⟩, fun h1 h2 ⟨mA, ⟨o, es, ep, e, c⟩, r⟩ k => ⟨mA, ⟨o, es, ep, k _ e, c⟩, r⟩⟩
theorem iT (hok : HOk P w H h) (e : H x = some (ExO fl x C dx)) : ∃ t0 a1 a2 a3 a4 a5, h.get? x = some (bQ C dx #[.ref t0, a1, a2, a3, a4, a5]) ∧ (fl = true → a1 = .none) := (show bI P w H h x (ExO fl x C dx) from hok x _ e).1
theorem zr (hok : HOk P w H h) (e : H p = some (XdO p fs)) : ∃ mA, h.Ns1 p mA ∧ (∀ f, jr (fs.lookup f) (mA f)) ∧ Within mA (fs.map (·.1)) := (show bI P w H h p (XdO p fs) from hok p _ e).1
end
structure qd (K : Frag) (C : Addr) : Prop where
 ga : findIn K (.ref C) "__getattribute__" = some (some (.builtin "BaseException.__getattribute__"))
 bx : mroIn K C (.type "BaseException") = some true
 nga : findIn K (.ref C) "__getattr__" = some none
 ob : mroIn K C (.type "object") = some true
 hd : hasDictIn K C = true
 ov : vL K C = true
 sa : findIn K (.ref C) "__setattr__" = some (some (.builtin "object.__setattr__"))
 cl : findIn K (.ref C) "__class__" = some (some (.builtin "object.__class__"))
 cg : specialIn K (.builtin "object.__class__") "__get__" = some (some (.builtin "getset_descriptor.__get__"))
 ct : takesIn K (.builtin "object.__class__") = some true
theorem qd.cls {K : Frag} {C : Addr} (c : qd K C) : (clsIn K C).isSome = true := by
 obtain ⟨cd, hc, _⟩ := any_some c.hd
 rw [hc]; rfl
theorem qd.fo {K : Frag} {C : Addr} (c : qd K C) (od : Option Obj) : findObj K C od "__class__" = some (.bind (.builtin "getset_descriptor.__get__") (.builtin "object.__class__")) := by
 obtain ⟨cd, hc, _⟩ := any_some c.hd
 unfold findObj
 rw [hc, Option.bind_some, c.cl, Option.bind_some]
 dsimp only
 rw [c.cg, Option.bind_some]
 dsimp only
 rw [c.ct, Option.bind_some]
section
variable {X : Cx} {pins : List (Addr × Obj)} {σ : St} {H : Hp} {s : Shared} {fl : Bool} {a C dx : Addr} {fs : List (Str × V)} {f : Str} {v : V} {A : Around} {E : Value → Shared → Prop}
theorem Ez {b : Bool} {Q : Value → Shared → Prop} (I : Inv X pins σ H s) (e : H a = some (ExO fl a C (some dx))) (d : H dx = some (XdO dx fs)) (c : qd X.K C) (n : cz X.K C f) (l : fs.lookup f = some v)
  (h : ∀ u s', Inv X pins σ H s' → RelV v u → Q u s') : wpAny (model X.prog X.w) A (getAttr (.ref a) f b) Q E s := by
 obtain ⟨t0, a1, a2, a3, a4, a5, hx, hfl⟩ := iT I.hok e
 obtain ⟨mA, hn, r, _⟩ := zr I.hok d
 obtain ⟨u, hu, ru⟩ := jr.some_of (v := v) (o := mA f) (by rw [← l]; exact r f)
 obtain ⟨od, ho, hl⟩ := oV hn
 have J : InstAt s.heap a (bQ C (some dx) #[.ref t0, a1, a2, a3, a4, a5]) C (some od) := ⟨hx, rfl, rfl, ho⟩
 exact FQ I.kIn J c.ga c.bx c.nga (findObj_own c.hd n rfl (by rw [hl, hu])) (uf ru) (h u _ (I.tok _) ru)
theorem Bs {y : V} {u : Value} {Q : Unit → Shared → Prop} (I : Inv X pins σ H s) (e : H a = some (ExO fl a C none)) (c : qd X.K C) (n : cz X.K C f) (ry : RelV y u)
  (h : ∀ p s', H p = none → p ≠ a → Inv X pins σ (upd (upd H p (XdO p [(f, y)])) a (ExO fl a C (some p))) s' → Q () s') : wpAny (model X.prog X.w) A (setAttr (.ref a) f u) Q E s := by
 obtain ⟨t0, a1, a2, a3, a4, a5, hx, hfl⟩ := iT I.hok e
 have hlt : a < s.heap.objs.size := Heap.lt_size hx
 have hne : s.heap.objs.size ≠ a := Nat.ne_of_gt hlt
 refine Cy I.kIn hx c.sa c.ov n.taker c.hd fun h' t' k hx' hn' => h s.heap.objs.size _ (I.hok.fresh (Nat.le_refl _)) hne ?_
 have g1 : (h'.update a fun _ => bQ C none #[.ref t0, a1, a2, a3, a4, a5]).get? a = some (bQ C none #[.ref t0, a1, a2, a3, a4, a5]) := Heap.get?_update_self _ hx' rfl
 have g2 : ∀ b, b ≠ a → (h'.update a fun _ => bQ C none #[.ref t0, a1, a2, a3, a4, a5]).get? b = h'.get? b := fun b hb => Heap.get?_update_ne _ _ _ _ hb
 have I1 := I.laid (a := s.heap.objs.size) (o := XdO s.heap.objs.size [(f, y)]) (h' := h'.update a fun _ => bQ C none #[.ref t0, a1, a2, a3, a4, a5]) (t' := t') (fun b o q => by
   by_cases hb : b = a
   ·subst hb; rw [hx] at q; cases q; exact g1
   ·rw [g2 b hb]; exact k b o hb q) (Nat.le_refl _) (by
   obtain ⟨o, es, ep, q, r⟩ := hn'
   refine Hg ⟨o, es, ep, by rw [g2 _ hne]; exact q, r⟩ (fun g => ?_) (fun g hg => ?_)
   ·show jr (List.lookup g [(f, y)]) (if g = f then some u else none)
    by_cases z : g = f
    ·have hb : (g == f) = true := beq_iff_eq.mpr z
     simp only [List.lookup, hb, if_pos z]; exact ry
    ·have hb : (g == f) = false := beq_eq_false_iff_ne.mpr z
     simp only [List.lookup, hb, if_neg z]; exact True.intro
   ·by_cases z : g = f
    ·rw [z]; simp
    ·exact absurd (if_neg z) hg)
 refine I1.write (x := a) (e := a) (o := ExO fl a C (some s.heap.objs.size)) (t' := t') (h' := h') (by rw [aG hne.symm, e]; exact True.intro) (.inl rfl) (fun b o hb q => by rw [← g2 b hb]; exact q) ⟨_, hx'⟩ (sE hx' hfl)
theorem CZ {dx : Option Addr} {c : Value} {b : Bool} {Q : Value → Shared → Prop} (I : Inv X pins σ H s) (e : H a = some (ExO fl a C dx)) (cl : qd X.K C) (k : kitOne X.K (.ref C) c = some b) (dxd : ∀ p, dx = some p → ∃ fs, H p = some (XdO p fs))
  (h : ∀ tk, Q (.bool b) { s with toks := tk }) : wpAny (model X.prog X.w) A (call (.builtin "isinstance") [.ref a, c]) Q E s := by
 obtain ⟨t0, a1, a2, a3, a4, a5, hx, hfl⟩ := iT I.hok e
 have J : ∃ ox od, PySem.W.InstAt s.heap a ox C od := by
  cases dx with
  | none => exact ⟨_, none, hx, rfl, rfl, True.intro⟩
  | some p =>
   obtain ⟨fs, d⟩ := dxd p rfl
   obtain ⟨mA, hn, _⟩ := zr I.hok d
   obtain ⟨od, ho, _⟩ := oV hn
   exact ⟨_, some od, hx, rfl, rfl, ho⟩
 exact kia_one (Ed cl.cls cl.ga cl.bx cl.nga cl.ob cl.fo) I.kIn J k (fun z => nomatch z) h
end
def Gq (K : Frag) (ta : TE) (f : Str) : TE := fun σ H Q => ta σ H fun x H1 => ∃ fl a C dx fs v, x = .ref a ∧ H1 a = some (ExO fl a C (some dx)) ∧ H1 dx = some (XdO dx fs) ∧ qd K C ∧ cz K C f ∧ fs.lookup f = some v ∧ Q v H1
def CG (K : Frag) (ta tv : TE) (f : Str) : TS := fun D σ H => tv σ H fun y H1 => ta σ H1 fun x H2 => ∃ fl a C, x = .ref a ∧ H2 a = some (ExO fl a C none) ∧ qd K C ∧ cz K C f ∧
 ∀ p, H2 p = none → p ≠ a → D.nx σ (upd (upd H2 p (XdO p [(f, y)])) a (ExO fl a C (some p)))
def Ph : V → Option Value
 | .ref a => some (.ref a)
 | .ty n => some (.type n)
 | _ => none
theorem El {y : V} {c u : Value} (e : Ph y = some c) (r : RelV y u) : u = c := by
 cases y <;> cases e <;> exact r
def CQ (K : Frag) : List V → Hp → VK → Prop := fun xs H Q => ∃ fl a C dx y c b, xs = [.ref a, y] ∧ Ph y = some c ∧ H a = some (ExO fl a C dx) ∧ (∀ p, dx = some p → ∃ fs, H p = some (XdO p fs)) ∧ qd K C ∧ kitOne K (.ref C) c = some b ∧ Q (.bl b) H
section
variable {X : Cx} {o e value : Expr} {f : Str} {pos pos' tpos : Pos} {ta tv : TE}
theorem Ex (he : PE X e ta) (hb : attributeBase e f X.env (eval e X.env) = eval e X.env) : PE X (.Attribute e f pos) (Gq X.K ta f) := by
 intro pins s σ H Q I h
 refine zE hb (thn (he pins s σ H _ I h) fun u s1 ⟨x, H1, I1, rx, fl, a, C, dx, fs, v, ex, ea, ed, c, n, l, q⟩ => ?_)
 subst ex
 obtain rfl : u = Value.ref a := rx
 exact Ez I1 ea ed c n l fun u' s2 I2 ru => ⟨v, H1, I2, ru, q⟩
theorem Cr (ha : PE X o ta) (hv : PE X value tv) (hs : swapsWith value (some (.Attribute o f pos')) pos.line X.env = pure false) : PS X (.Assign [.Attribute o f pos'] value pos) (CG X.K ta tv f) := by
 intro pins s σ H D I h
 refine plainObj_wpAny_Assign_Attribute (thn (hv pins s σ H _ I h) fun u s1 ⟨y, H1, I1, ry, q⟩ => thn (ha pins s1 σ H1 _ I1 q) fun ov s2 ⟨x, H2, I2, rx, fl, a, C, ex, ea, c, n, q2⟩ => ?_) hs
 subst ex
 obtain rfl : ov = Value.ref a := rx
 exact Bs I2 ea c n ry fun p s3 h1 h2 I3 => ⟨σ, _, I3, q2 p h1 h2⟩
theorem xF : jE X (.builtin "isinstance") (CQ X.K) := by
 intro pins s σ H xs us Q I r h
 obtain ⟨fl, a, C, dx, y, c, b, rfl, ry, ea, ed, cl, k, q⟩ := h
 obtain ⟨u, u2, rfl, rx, ry2⟩ := vals2 r
 obtain rfl : u = Value.ref a := rx
 obtain rfl := El ry ry2
 exact CZ I ea cl k ed fun tk => ⟨.bl b, H, I.tok tk, rfl, q⟩
end
abbrev TJ := Str → St → Hp → VK → Prop
def PJ (X : Cx) (es : List Expr) (t : TJ) : Prop :=
 ∀ (pins : List (Addr × Obj)) (s : Shared) (σ : St) (H : Hp) (out : Str) (Q : VK), Inv X pins σ H s → t out σ H Q → wpAny (model X.prog X.w) X.A (joinParts out (evalEach es X.env)) (EP X pins σ Q) X.xe s
def R9 : TJ := fun out _ H Q => out.length ≤ sizeLine ∧ Q (.str out) H
def Nr (te : TE) (tr : TJ) : TJ := fun out σ H Q => te σ H fun x H1 => ∃ y : Str, x = .str y ∧ (out ++ y).length ≤ sizeLine ∧ tr (out ++ y) σ H1 Q
def Te (te : TE) : TE := fun σ H Q => te σ H fun x H1 => (∃ i : Int, x = .int i ∧ i.natAbs.log2 < 1920 ∧ Q (.str (toString i)) H1) ∨ ∃ y : Str, x = .str y ∧ y.length ≤ sizeLine ∧ Q (.str y) H1
section
variable {X : Cx} {e v1 v2 : Expr} {es : List Expr} {te : TE} {tr : TJ} {pos : Pos}
theorem Hs : PJ X [] R9 := fun pins s σ H out Q I ⟨h1, h2⟩ => joinParts_nil ⟨.str out, H, I.tok _, ⟨_, rfl⟩, h2⟩ h1
theorem za (he : PE X e te) (hr : PJ X es tr) (hs : evalEach (e :: es) X.env = eval e X.env :: evalEach es X.env := by rfl) : PJ X (e :: es) (Nr te tr) := by
 intro pins s σ H out Q I h
 rw [hs]
 refine joinParts_cons (thn (he pins s σ H _ I h) fun u s1 ⟨x, H1, I1, rx, y, ex, hl, q⟩ => ?_)
 subst ex
 obtain ⟨t, rfl⟩ := (show ∃ t, u = Value.str y t from rx)
 exact ⟨hl, hr pins s1 σ H1 _ Q I1 q⟩
theorem Az (h : PJ X (v1 :: v2 :: es) tr) : PE X (.JoinedStr (v1 :: v2 :: es) pos) (tr Str.empty) := fun pins s σ H Q I q => JoinedStr_many (h pins s σ H _ Q I q)
theorem IK (he : PE X e te) : PE X (.FormattedValue e (-1) none pos) (Te te) := by
 intro pins s σ H Q I h
 refine FormattedValue_plain (thn (he pins s σ H _ I h) fun u s1 ⟨x, H1, I1, rx, q⟩ => ?_)
 rcases q with ⟨i, ex, hl, q⟩ | ⟨y, ex, hl, q⟩
 ·subst ex
  obtain ⟨t, rfl⟩ := (show ∃ t, u = Value.int i t from rx)
  exact formatField_int_small hl ⟨.str (toString i), H1, I1.tok _, ⟨_, rfl⟩, q⟩
 ·subst ex
  obtain ⟨t, rfl⟩ := (show ∃ t, u = Value.str y t from rx)
  exact formatField_str (fun t' tk => ⟨.str y, H1, I1.tok _, ⟨_, rfl⟩, q⟩) hl
end
abbrev qR : List Value := [.type "ValueError", .type "Exception", .type "BaseException", .type "object"]
def ExC (K : Frag) (C : Addr) : Prop := ∃ nm q N bs bm hdct sn sub ab col dd k0 k1 k2 k3 k5, K.lookup C = some (excClassObj nm q C N bs bm hdct sn sub ab col dd k0 k1 k2 k3 k5 "ValueError.__new__") ∧ ∀ h, K.In h → OwnTail h qR bm
theorem BP {H : Hp} {a : Addr} {o : HO} (e : H a = some o) : upd H a o = H := by
 funext b
 by_cases hb : b = a
 ·subst hb; rw [ao, e]
 ·rw [aG hb]
section
variable {X : Cx} {pins : List (Addr × Obj)} {σ : St} {H : Hp} {s : Shared} {fl : Bool} {a C B : Addr} {dx : Option Addr} {A : Around} {E : Value → Shared → Prop}
theorem Cz {u : Value} {Q : Value → Shared → Prop} (I : Inv X pins σ H s) (e : H a = some (ExO fl a C dx)) (c : ExC X.K C) (h : ∀ s', Inv X pins σ H s' → Q .none s') :
  wpAny (model X.prog X.w) A (call (.builtin "ValueError.__init__") [.ref a, u]) Q E s := by
 obtain ⟨nm, q, N, bs, bm, hdct, sn, sub, ab, col, dd, k0, k1, k2, k3, k5, hc, T⟩ := c
 obtain ⟨t0, a1, a2, a3, a4, a5, hx, hfl⟩ := iT I.hok e
 obtain ⟨hh, g, d, t, os⟩ := s
 refine DP PySem.F.excBase_ValueError (T _ I.kIn) (I.kIn _ _ hc) hx fun h' k hx' => h _ ?_
 have z := I.write (x := a) (e := a) (o := ExO fl a C dx) (t' := t) (h' := h') (by rw [e]; exact True.intro) (.inl rfl) (fun b o hb q => k b o hb q) ⟨_, hx'⟩ (sE hx' hfl)
 rwa [BP e] at z
def Hx (K : Frag) (t : TA) : TE := fun σ H Q => t σ H fun vs H1 => ∃ fl a C dx y, vs = [.ref a, y] ∧ H1 a = some (ExO fl a C dx) ∧ ExC K C ∧ Q .non H1
theorem Dj {x : Str} {e1 : Expr} {es : List Expr} {t : TA} {p apos pos : Pos} {pl : Sem Bool} (hg : Gl X x) (hm : X.mg x = some (.ref B)) (hs : specialIn X.K (.ref B) "__getattribute__" = some (some (.builtin "type.__getattribute__")))
  (hr : readsIn X.K B (.type "type") = true) (hf : findCls X.K (.ref B) (.type "type") "__init__" = some (.val (.builtin "ValueError.__init__"))) (ha : PA X (e1 :: es) t)
  (hdb : (x == ("__debug__" : Str)) = false := by decide) (he : starEach (e1 :: es) X.env = (false, eval e1 X.env) :: starEach es X.env := by rfl) (hpl : (backTo pos (starEach es X.env)).any (·.1) = false := by rfl)
  (ht : eval (.Call (.Attribute (.Name x p) "__init__" apos) (e1 :: es) [] pos) X.env = (do
   let ov ← eval (.Name x p) X.env
   standAt apos.atName
   let (f, first) ← holding [ov] (getMethod ov "__init__" pl)
   callWith pos f first (backTo pos (starEach (e1 :: es) X.env)) (backToKw pos (keywordEach [] X.env))) := by rfl) :
  PE X (.Call (.Attribute (.Name x p) "__init__" apos) (e1 :: es) [] pos) (Hx X.K t) := by
 intro pins s σ H Q I h
 refine PySem.W.methodCall_KW (pl := pl) (jP I hg hm ?_ hdb) ht
 refine method_cls I.kIn hs (cls_value I.kIn hr hf rfl ?_)
 have I0 : Inv X pins σ H { s with toks := s.toks + 1 } := I.tok _
 refine PyProof.Rows.callWith_builtin1 (thn (ha pos pins _ σ H _ I0 h) fun us s1 ⟨vs, H1, I1, r1, fl, a, C, dx, y, ev, ea, c, q1⟩ => ?_) he hpl
 subst ev
 obtain ⟨u, u2, rfl, rx, _⟩ := vals2 r1
 obtain rfl : u = Value.ref a := rx
 exact Cz I1 ea c fun s' I' => ⟨.non, H1, I', rfl, q1⟩
end
def CT (C : Addr) (sp : Sp) (dvs : List V) (E : XK) (t : TA) : TE := fun σ H Q => t σ H fun vs H1 => ∀ x, H1 x = none →
 sp (.ref x :: (vs ++ dvs)) (upd H1 x (ExO true x C none)) (fun v H2 => v = .non ∧ Q (.ref x) H2) E
section
variable {X : Cx} {CX : CXT} {k : Nat} {f C : Addr} {fd : FuncData} {ps : List Str} {sp : Sp} {dvs : List V} {ds : List Value} {E : XK} {x : Str} {p pos : Pos} {e : Expr} {es : List Expr} {t : TA}
theorem Inv.madeX {pins : List (Addr × Obj)} {σ : St} {H : Hp} {s : Shared} {us : List Value} (I : Inv X pins σ H s) : Inv X pins σ (upd H (s.heap.objs.size + 1) (ExO true (s.heap.objs.size + 1) C none))
  { s with heap := (s.heap.push { cls := .type "tuple", data := .seq us.toArray }).push (bQ C none #[.ref s.heap.objs.size, .none, .none, .none, .bool false, .none]) } := by
 have hget : ((s.heap.push { cls := .type "tuple", data := .seq us.toArray }).push (bQ C none #[.ref s.heap.objs.size, .none, .none, .none, .bool false, .none])).get? (s.heap.objs.size + 1) = some (bQ C none #[.ref s.heap.objs.size, .none, .none, .none, .bool false, .none]) := by heap_get
 exact I.laid (a := s.heap.objs.size + 1) (t' := s.toks) (fun b u q => Heap.get?_push_of_some _ (Heap.get?_push_of_some _ q)) (Nat.le_succ _) (sE hget (fun _ => rfl))
theorem Ax {pins : List (Addr × Obj)} {σ : St} {H : Hp} {s : Shared} {Q : VK} {us : List Value} {vs : List V} (c : ExC X.K C) (hi : findIn X.K (.ref C) "__init__" = some (some (.ref f))) (hf : isFn X.K (.ref f) = true)
  (F : aK X.prog X.w X.K X.mg X.base CX k f fd ps sp) (hr : aR (k + 1) X.A) (hb : Binds X.K fd ps ds) (hd : Vals dvs ds) (hx : jl CX X E) (I : Inv X pins σ H s) (r : Vals vs us) (hps : ps.length ≤ 1000)
  (h : ∀ x, H x = none → sp (.ref x :: (vs ++ dvs)) (upd H x (ExO true x C none)) (fun v H2 => v = .non ∧ Q (.ref x) H2) E) :
  wpAny (model X.prog X.w) X.A (call (.ref C) us) (EP X pins σ Q) X.xe s := by
 have hq := h (s.heap.objs.size + 1) (I.hok.fresh (Nat.le_succ _))
 have I2 := Inv.madeX (C := C) (us := us) I
 have r2 : Vals (V.ref (s.heap.objs.size + 1) :: (vs ++ dvs)) (Value.ref (s.heap.objs.size + 1) :: (us ++ ds)) := .cons rfl (r.append hd)
 have hl : (Value.ref (s.heap.objs.size + 1) :: us ++ ds).length = ps.length := by
  have e := r2.length
  rw [F.len _ _ _ _ hq] at e
  exact e.symm
 have hus : us.length ≤ sizeLine := by
  have : us.length ≤ ps.length := by rw [← hl, List.length_append, List.length_cons]; omega
  exact Nat.le_trans this (Nat.le_trans hps (by decide))
 obtain ⟨nm, q, N, bs, bm, hdct, sn, sub, ab, col, dd, k0, k1, k2, k3, k5, hc, T⟩ := c
 refine wpAny_call (Bd PySem.F.excBase_ValueError (T _ I.kIn) (I.kIn _ _ hc) (looks_findIn I.kIn hi) (fun self => bind_fn I.kIn self (beq_iff_eq.mp hf)) hus
  (codeAny_mono (F.run _ X.stack _ _ ⟨Value.ref (s.heap.objs.size + 1) :: us, []⟩ (Value.ref (s.heap.objs.size + 1) :: (us ++ ds)) _ _ E (hr.make C us [])
  (I2.env0.make C us []) (hb _ (Value.ref (s.heap.objs.size + 1) :: us) I2.kIn hl) r2 hq) fun r s' hq' => ?_))
 cases r with
 | error e => exact hx pins σ _ _ e s' I2 hq'
 | ok fl =>
  cases fl with
  | ret u =>
   obtain ⟨v, H', I3, rv, ev, q3⟩ := I2.after hq'
   subst ev
   exact ⟨rv, ⟨V.ref (s.heap.objs.size + 1), H', I3, rfl, q3⟩⟩
  | next => exact False.elim hq'
  | brk => exact False.elim hq'
  | cont => exact False.elim hq'
theorem Dr (c : ExC X.K C) (hi : findIn X.K (.ref C) "__init__" = some (some (.ref f))) (hf : isFn X.K (.ref f) = true) (hkp : keepIn X.K (.ref C) = true)
  (F : aK X.prog X.w X.K X.mg X.base CX k f fd ps sp) (hr : aR (k + 1) X.A) (hg : Gl X x) (hm : X.mg x = some (.ref C)) (hb : Binds X.K fd ps ds) (hd : Vals dvs ds) (hx : jl CX X E) (hps : ps.length ≤ 1000)
  (ha : PA X (e :: es) t) (hdb : (x == ("__debug__" : Str)) = false := by decide) (he : starEach (e :: es) X.env = (false, eval e X.env) :: starEach es X.env := by rfl) (hpl : (backTo pos (starEach es X.env)).any (·.1) = false := by rfl) :
  PE X (.Call (.Name x p) (e :: es) [] pos) (CT C sp dvs E t) := by
 intro pins s σ H Q I h
 refine wpAny_Call_Name_kw (jP I hg hm ?_ hdb)
 refine PySem.W.callWith_K (h₀ := X.base) I.ok.mod.kin hkp (thn (ha pos pins s σ H _ I h) fun us s1 ⟨vs, H1, I1, r, q⟩ => ⟨I1.kIn, ?_⟩) he hpl
 exact Ax c hi hf F hr hb hd hx I1 r hps q
end
def nF (es : Array DictEntry) : Bool := es.toList.all fun e => match e.key with | .str _ _ => true | _ => false
theorem yF {es : Array DictEntry} (e : nF es = true) : StrKeys es := by
 intro d hd
 have := List.all_eq_true.mp e d (Array.mem_toList_iff.mpr hd)
 split at this
 ·rename_i x t q; exact ⟨x, t, q⟩
 ·cases this
theorem Nb {K : Frag} {N : Addr} {oN : Value} {dN : Option Addr} {es : Array DictEntry} {nn : Nat} {sl : Array (Option Value)} {h : Heap} (X : K.In h) (l : K.lookup N = some ⟨oN, dN, .dict es nn, sl⟩) (e : nF es = true) : h.Ns N (nsFind es) :=
 ⟨_, es, nn, X _ _ l, rfl, yF e, fun _ => rfl⟩
section
variable {K : Frag} {C D N HE M : Addr} {nm q nm' q' : Str} {bs bs' bm bm' : List Value} {sn sn' : List Str} {sub sub' : List Value} {ab ab' hdct hdct' : Bool} {col col' : Option Bool} {dd dd' : Option Addr} {k0 k1 k2 k3 k5 j0 j1 j2 j3 j5 : Option Value} {oN : Value} {dN : Option Addr} {es : Array DictEntry} {nn : Nat} {sl : Array (Option Value)} {i i' : String}
theorem Iv (l : K.lookup HE = some (excClassObj nm q HE N bs qR hdct sn sub ab col dd k0 k1 k2 k3 k5 "ValueError.__new__")) : ExC K HE :=
 ⟨_, _, _, _, _, _, _, _, _, _, _, _, _, _, _, _, l, fun h X => .base⟩
theorem Eo (l : K.lookup HE = some (excClassObj nm q HE N bs qR hdct sn sub ab col dd k0 k1 k2 k3 k5 i)) (n : K.lookup N = some ⟨oN, dN, .dict es nn, sl⟩) (e : nF es = true) (hi : nsFind es "__init__" = none)
  (l' : K.lookup C = some (excClassObj nm' q' C M bs' (.ref HE :: qR) hdct' sn' sub' ab' col' dd' j0 j1 j2 j3 j5 "ValueError.__new__")) : ExC K C :=
 ⟨_, _, _, _, _, _, _, _, _, _, _, _, _, _, _, _, l', fun h X => .own (X _ _ l) (Nb X n e) hi .base⟩
theorem qU (l : K.lookup C = some (excClassObj nm q C N bs bm hdct sn sub ab col dd k0 k1 k2 k3 k5 i)) : ∃ cd, clsIn K C = some cd ∧ cd.mro = .ref C :: bm ∧ cd.hasDict = hdct := ⟨_, by unfold clsIn; rw [l], rfl, rfl⟩
theorem xZ {b : Value} (l : K.lookup C = some (excClassObj nm q C N bs bm hdct sn sub ab col dd k0 k1 k2 k3 k5 i)) : mroIn K C b = some ((Value.ref C :: bm).contains b) := by
 obtain ⟨cd, h1, h2, _⟩ := qU l
 unfold mroIn
 rw [h1, Option.bind_some, h2, if_neg (by simp)]
theorem Ei (l : K.lookup C = some (excClassObj nm q C N bs bm hdct sn sub ab col dd k0 k1 k2 k3 k5 i)) (l' : K.lookup D = some (excClassObj nm' q' D M bs' bm' hdct' sn' sub' ab' col' dd' j0 j1 j2 j3 j5 i')) :
  kitOne K (.ref C) (.ref D) = some ((Value.ref C :: bm).contains (.ref D)) := by
 unfold kitOne
 by_cases e : (Value.ref C == Value.ref D) = true
 ·rw [if_pos e, eq_of_beq e]; simp
 ·rw [if_neg e]
  obtain ⟨cd, h1, _⟩ := qU l'
  have h2 : typeIn K (.ref D) = some (.type "type") := by show (K.lookup D).map (·.cls) = _; rw [l']; rfl
  show (if ((clsIn K D).isSome && typeIn K (.ref D) == some (.type "type")) = true then mroIn K C (.ref D) else none) = _
  rw [h1, h2, if_pos (by simp), xZ l]
theorem FN (l : K.lookup C = some (excClassObj nm q C N bs bm true sn sub ab col dd k0 k1 k2 k3 k5 i)) (hb : cj bm = true) (hbe : bm.contains (.type "BaseException") = true)
  (ga : findIn K (.ref C) "__getattribute__" = some (some (.builtin "BaseException.__getattribute__"))) (nga : findIn K (.ref C) "__getattr__" = some none)
  (sa : findIn K (.ref C) "__setattr__" = some (some (.builtin "object.__setattr__"))) (cl : findIn K (.ref C) "__class__" = some (some (.builtin "object.__class__")))
  (cg : specialIn K (.builtin "object.__class__") "__get__" = some (some (.builtin "getset_descriptor.__get__"))) (ct : takesIn K (.builtin "object.__class__") = some true) : qd K C := by
 obtain ⟨cd, h1, h2, h3⟩ := qU l
 refine ⟨ga, ?_, nga, ?_, ?_, ?_, sa, cl, cg, ct⟩
 ·rw [xZ l, List.contains_cons, hbe, Bool.or_true]
 ·rw [xZ l, List.contains_cons, m7 hb, Bool.or_true]
 ·unfold hasDictIn; rw [h1]; exact h3
 ·unfold vL; rw [h1]; show cj cd.mro = true; rw [h2, m8]; exact hb
end
structure XIn (K : Frag) (C : Addr) (qual : Str) (st : Stmt) (ps : List Str) (f : Addr) (fd : FuncData) : Prop where
 F : Fun K "__init__" qual st f fd
 b : Binds K fd ps []
 i : findIn K (.ref C) "__init__" = some (some (.ref f))
 fn : isFn K (.ref f) = true
 kp : keepIn K (.ref C) = true
 sm : ps.length ≤ 1000
section
variable {X : Cx} {k : Nat} {f C : Addr} {fd : FuncData} {ps : List Str} {sp : Sp} {x qual : Str} {st : Stmt} {p pos pos' : Pos} {e o value : Expr} {es : List Expr} {t : TA} {ta tv : TE} {g : Str}
theorem Gs (A : XIn X.K C qual st ps f fd) (G : aK X.prog X.w X.K X.mg X.base CX0 k f fd ps sp) (hr : aR (k + 1) X.A) (hm : X.mg x = some (.ref C)) (c : ExC X.K C) (ha : PA X (e :: es) t) (hg : Gl X x := by rfl)
  (hdb : (x == ("__debug__" : Str)) = false := by decide) (he : starEach (e :: es) X.env = (false, eval e X.env) :: starEach es X.env := by rfl) (hpl : (backTo pos (starEach es X.env)).any (·.1) = false := by rfl) :
  PE X (.Call (.Name x p) (e :: es) [] pos) (CT C sp [] E0 t) := Dr c A.i A.fn A.kp G hr hg hm A.b .nil pK A.sm ha hdb he hpl
theorem FJ {y : Addr} (h : X.mg x = some (.ref y)) (hg : Gl X x := by rfl) (hd : (x == ("__debug__" : Str)) = false := by decide) : PE X (.Name x pos) (tC (.ref y)) := u9 hg h rfl hd
theorem Dk (ha : PE X o ta) (hv : PE X value tv) (hs : swapsWith value (some (.Attribute o g pos')) pos.line X.env = pure false := by rfl) : QS X (.Assign [.Attribute o g pos'] value pos) (CG X.K ta tv g) := ⟨Cr ha hv hs⟩
end
structure tU (fr : List Addr) (e : Addr) (old : Option Addr) (h h' : Heap) : Prop where
 keep : ∀ b o, h.get? b = some o → b ≠ e → some b ≠ old → b ∉ fr → h'.get? b = some o
 slot : ∀ b o, h.get? b = some o → b ≠ e → some b ≠ old → ∃ sl, h'.get? b = some { o with slots := sl }
 there : ∀ b o, h.get? b = some o → ∃ o', h'.get? b = some o'
 size : h.objs.size ≤ h'.objs.size
def wJ (h : Heap) (T : Addr) : Prop := ∃ oT ts, h.get? T = some oT ∧ oT.data = .fields ts ∧ ts[3]? = some .none
theorem Dh {o : Obj} {vs : Array Value} (hd : o.data = .fields vs) (f : Array Value → Array Value) : Obj.mapFields f o = { o with data := .fields (f vs) } := by
 obtain ⟨c, d, dt, sl⟩ := o
 cases (show dt = .fields vs from hd)
 rfl
theorem qC {o : Obj} {vs : Array Value} (hd : o.data = .fields vs) : o.isFreed = false := Obj.isFreed_of_fields hd
section
variable {M : Model} {A : Around} {E : Value → Shared → Prop} {s : Shared} {base : Heap} {env : Env} {outer : List Env} {L e : Addr} {oe : Obj} {vs : Array Value} {Q : Unit → Shared → Prop}
theorem yV {head : Value} {nx : Bool} (hfr : A.frames = some (env :: outer)) (hl : s.heap.FunFrames base (env :: outer)) (hf : env.frame = some L) (he : s.heap.get? e = some oe) (hd : oe.data = .fields vs) (hsz : 1 < vs.size)
  (h : ∀ h' T, tU (frs (env :: outer)) e none s.heap h' → h'.get? e = some { oe with data := .fields (vs.setIfInBounds 1 (.ref T)) } → s.heap.objs.size ≤ T → wJ h' T → Q () { s with heap := h' }) :
  wpAny M A (do
   let a ← frameOf env
   let pl ← entryPlaceOf L nx
   let b ← EntryCells.newEntry head a .none (rawInt L) .none pl
   setField (.ref e) 1 b) (fun _ s' => wpAny M A (setFlight (.ref e) none) Q E s') E s := by
 have en : e ∉ frs (env :: outer) := fun hm => by
  obtain ⟨_, o, ho, hn⟩ := hl.mem hm
  rw [he] at ho; cases ho; exact hn vs hd
 have elt : e < s.heap.objs.size := Heap.lt_size he
 refine wpAny_bind (wpAny_frameOf_fun hfr hl hf fun g1 G1 => ?_)
 refine wpAny_bind (wpAny_entryPlaceOf fun pl hpl => ?_)
 unfold EntryCells.newEntry newFields
 refine wpAny_bind (wpAny_newObj_type ?_ (hpl.sizeOk5 _ _ _ _ _))
 have e1 : g1.get? e = some oe := (G1.2.1 e en).trans he
 have z1 : g1.objs.size = s.heap.objs.size := G1.1
 have hts : (([head, .ref L, .none, rawInt L, .none] ++ (if pl.isEmpty then List.replicate 6 Value.none else pl)).toArray : Array Value).size > 3 := by
  simp only [List.size_toArray, List.length_append, List.length_cons, List.length_nil]
  omega
 generalize (([head, .ref L, .none, rawInt L, .none] ++ (if pl.isEmpty then List.replicate 6 Value.none else pl)).toArray : Array Value) = tv at hts
 have t2 := Heap.get?_push_size g1 (o := { cls := .type "traceback", dict := none, data := .fields tv }) rfl
 have k2 : ∀ b o, g1.get? b = some o → (g1.push { cls := .type "traceback", dict := none, data := .fields tv }).get? b = some o := fun b o q => Heap.get?_push_of_some _ q
 have z2 : (g1.push { cls := .type "traceback", dict := none, data := .fields tv }).objs.size = g1.objs.size + 1 := Heap.size_push _ _
 generalize g1.push { cls := .type "traceback", dict := none, data := .fields tv } = g2 at t2 k2 z2
 have Tne : g1.objs.size ≠ e := Nat.ne_of_gt (by rw [z1]; exact elt)
 refine wpAny_setField (k2 _ _ e1) hd hsz ?_
 have e3 := Heap.get?_update_self (h := g2) (Obj.mapFields (·.setIfInBounds 1 (Value.ref g1.objs.size))) (k2 _ _ e1) (by rw [Dh hd]; exact qC rfl)
 rw [Dh hd] at e3
 have o3 : ∀ b, b ≠ e → (g2.update e (Obj.mapFields (·.setIfInBounds 1 (Value.ref g1.objs.size)))).get? b = g2.get? b := fun b hb => Heap.get?_update_other _ _ (Ne.symm hb)
 have z3 : (g2.update e (Obj.mapFields (·.setIfInBounds 1 (Value.ref g1.objs.size)))).objs.size = g2.objs.size := by cases g2; simp [Heap.update]
 generalize g2.update e (Obj.mapFields (·.setIfInBounds 1 (Value.ref g1.objs.size))) = g3 at e3 o3 z3
 unfold setFlight
 refine wpAny_bind (wpAny_field e3 rfl (x := .ref g1.objs.size) (by simp [hsz]) ?_)
 rw [if_pos (show (Value.ref g1.objs.size != Value.none) = true from by simp)]
 have t3 := (o3 _ Tne).trans t2
 refine wpAny_setField t3 rfl hts ?_
 have t4 := Heap.get?_update_self (h := g3) (Obj.mapFields (·.setIfInBounds 3 ((none : Option Addr).elim Value.none fun f => rawInt f))) t3 (qC rfl)
 have o4 : ∀ b, b ≠ g1.objs.size → (g3.update g1.objs.size (Obj.mapFields (·.setIfInBounds 3 ((none : Option Addr).elim Value.none fun f => rawInt f)))).get? b = g3.get? b := fun b hb => Heap.get?_update_other _ _ (Ne.symm hb)
 have z4 : (g3.update g1.objs.size (Obj.mapFields (·.setIfInBounds 3 ((none : Option Addr).elim Value.none fun f => rawInt f)))).objs.size = g3.objs.size := by cases g3; simp [Heap.update]
 generalize g3.update g1.objs.size (Obj.mapFields (·.setIfInBounds 3 ((none : Option Addr).elim Value.none fun f => rawInt f))) = g4 at t4 o4 z4
 have all : ∀ b o, b ≠ e → g1.get? b = some o → g4.get? b = some o := fun b o hb q => by
  rw [o4 b (Nat.ne_of_lt (Heap.lt_size q)), o3 b hb]; exact k2 b o q
 have e4 : g4.get? e = some { oe with data := .fields (vs.setIfInBounds 1 (.ref g1.objs.size)) } := (o4 e (Ne.symm Tne)).trans e3
 refine h g4 g1.objs.size ⟨fun b o q hb _ hn => all b o hb ((G1.2.1 b hn).trans q), fun b o q hb _ => ?_, fun b o q => ?_, by omega⟩ e4 (by omega) ⟨_, _, t4, rfl, by simp [hts]⟩
 ·obtain ⟨sl, q1⟩ := G1.2.2 b o q
  exact ⟨sl, all b _ hb q1⟩
 ·by_cases hb : b = e
  ·subst hb; exact ⟨_, e4⟩
  ·obtain ⟨sl, q1⟩ := G1.2.2 b o q
   exact ⟨_, all b _ hb q1⟩
theorem xH (hfr : A.frames = some (env :: outer)) (hl : s.heap.FunFrames base (env :: outer)) (hf : env.frame = some L) (he : s.heap.get? e = some oe) (hd : oe.data = .fields vs) (h1 : vs[1]? = some .none)
  (h : ∀ h' T, tU (frs (env :: outer)) e none s.heap h' → h'.get? e = some { oe with data := .fields (vs.setIfInBounds 1 (.ref T)) } → s.heap.objs.size ≤ T → wJ h' T → Q () { s with heap := h' }) :
  wpAny M A (noteFrame (.ref e) env) (fun _ s' => wpAny M A (setFlight (.ref e) none) Q E s') E s := by
 unfold noteFrame
 simp only [hf]
 refine wpAny_bind (wpAny_field he hd h1 ?_)
 rw [if_neg (by decide)]
 exact yV hfr hl hf he hd (Array.getElem?_eq_some_iff.mp h1).1 h
theorem zP {T0 : Addr} (hfr : A.frames = some (env :: outer)) (hl : s.heap.FunFrames base (env :: outer)) (hf : env.frame = some L) (he : s.heap.get? e = some oe) (hd : oe.data = .fields vs) (h1 : vs[1]? = some (.ref T0)) (hT : wJ s.heap T0) (hne : T0 ≠ e)
  (h : ∀ h' T, tU (frs (env :: outer)) e (some T0) s.heap h' → h'.get? e = some { oe with data := .fields (vs.setIfInBounds 1 (.ref T)) } → s.heap.objs.size ≤ T → wJ h' T → Q () { s with heap := h' }) :
  wpAny M A (noteFrame (.ref e) env) (fun _ s' => wpAny M A (setFlight (.ref e) none) Q E s') E s := by
 obtain ⟨oT, ts, hT, hdT, h3⟩ := hT
 unfold noteFrame
 simp only [hf]
 refine wpAny_bind (wpAny_field he hd h1 ?_)
 rw [if_pos (show (Value.ref T0 != Value.none) = true from by simp)]
 refine wpAny_bind (wpAny_field hT hdT h3 ?_)
 rw [if_neg (show ¬ ((Value.none == rawInt L) = true) from by simp [rawInt])]
 refine wpAny_bind (wpAny_setField hT hdT (Array.getElem?_eq_some_iff.mp h3).1 ?_)
 have Tf : T0 ∉ frs (env :: outer) := fun hm => by
  obtain ⟨_, o, ho, hn⟩ := hl.mem hm
  rw [hT] at ho; cases ho; exact hn ts hdT
 have t1 := Heap.get?_update_self (h := s.heap) (Obj.mapFields (·.setIfInBounds 3 Value.none)) hT (by rw [Dh hdT]; exact qC rfl)
 have o1 : ∀ b, b ≠ T0 → (s.heap.update T0 (Obj.mapFields (·.setIfInBounds 3 Value.none))).get? b = s.heap.get? b := fun b hb => Heap.get?_update_other _ _ (Ne.symm hb)
 have z1 : (s.heap.update T0 (Obj.mapFields (·.setIfInBounds 3 Value.none))).objs.size = s.heap.objs.size := by cases s.heap; simp [Heap.update]
 generalize s.heap.update T0 (Obj.mapFields (·.setIfInBounds 3 Value.none)) = g at t1 o1 z1
 refine yV (s := { s with heap := g }) hfr (hl.of_keeps fun b o q hn => ⟨o, (o1 b fun z => ?_).trans q, rfl⟩) hf ((o1 e (Ne.symm hne)).trans he) hd (Array.getElem?_eq_some_iff.mp h1).1 fun h' T N x hz tb => h h' T ⟨fun b o q hb hT0 hn => ?_, fun b o q hb hT0 => ?_, fun b o q => ?_, Nat.le_trans (Nat.le_of_eq z1.symm) N.size⟩ x (Nat.le_trans (Nat.le_of_eq z1.symm) hz) tb
 ·subst z; rw [hT] at q; cases q; exact hn ts hdT
 ·exact N.keep b o ((o1 b fun z => hT0 (by rw [z])).trans q) hb (by simp) hn
 ·exact N.slot b o ((o1 b fun z => hT0 (by rw [z])).trans q) hb (by simp)
 ·by_cases z : b = T0
  ·subst z; exact N.there _ _ t1
  ·exact N.there _ _ ((o1 b z).trans q)
end
theorem Du {P : Program} {w : World} {H : Hp} {h h' : Heap} {fr : List Addr} {x C : Addr} {dx old : Option Addr} (ok : HOk P w H h) (N : tU fr x old h h') (hx : H x = some (ExO false x C dx))
  (hx' : ∃ t0 a1 a2 a3 a4 a5, h'.get? x = some (bQ C dx #[.ref t0, a1, a2, a3, a4, a5])) (hfr : ∀ b ∈ fr, H b = none) (hold : ∀ T, old = some T → H T = none) : HOk P w H h' := fun a o e => by
 by_cases ha : a = x
 ·subst ha
  rw [hx] at e
  cases e
  obtain ⟨t0, a1, a2, a3, a4, a5, q⟩ := hx'
  exact sE q (fun z => by cases z)
 ·refine (ok a o e).stay (fun b u hb q => ?_) (fun _ q => q) fun _ _ q => q
  have hbn : ∃ v, H b = some v := by
   rcases hb with rfl | hb
   ·exact ⟨_, e⟩
   ·exact ⟨_, hb⟩
  obtain ⟨v, hv⟩ := hbn
  refine N.keep b u q (fun z => ?_) (fun z => ?_) (fun z => ?_)
  ·subst z
   rcases hb with z | hb
   ·exact ha z.symm
   ·rw [hx] at hb; cases hb
  ·have := hold b z.symm
   rw [hv] at this; cases this
  ·have := hfr b z
   rw [hv] at this; cases this
theorem Br {fs fr : List Addr} {H0 H1 : Hp} {h0 h1 h2 : Heap} {x : Addr} {old : Option Addr} {o : HO} (u : Un fs [] H0 H1 h0 h1) (N : tU fr x old h1 h2) (hx : H1 x = some o)
  (hT : ∀ T, old = some T → h0.objs.size ≤ T) (hfr : ∀ b ∈ fr, b ∈ fs ∨ h0.objs.size ≤ b) : Un fs [] H0 H1 h0 h2 where
 keep := fun b ob q n hb he => by
  refine N.keep b ob (u.keep b ob q n hb he) (fun z => ?_) (fun z => ?_) (fun z => ?_)
  ·have := u.free b ob q n he
   rw [z, hx] at this; cases this
  ·exact absurd (Heap.lt_size q) (Nat.not_lt.mpr (hT b z.symm))
  ·rcases hfr b z with k | k
   ·exact hb k
   ·exact absurd (Heap.lt_size q) (Nat.not_lt.mpr k)
 slot := fun b ob q n hb he => by
  obtain ⟨sl, q1⟩ := u.slot b ob q n hb he
  obtain ⟨sl2, q2⟩ := N.slot b _ q1 (fun z => by have := u.free b ob q n he; rw [z, hx] at this; cases this) (fun z => absurd (Heap.lt_size q) (Nat.not_lt.mpr (hT b z.symm)))
  exact ⟨sl2, q2⟩
 free := u.free
 there := fun b ob q he => by
  obtain ⟨o', q1⟩ := u.there b ob q he
  exact N.there b o' q1
 tups := u.tups
 frzs := u.frzs
 tbls := u.tbls
def Fly (h : Heap) (x : Addr) (v : Value) : Prop := ∃ oe vs, h.get? x = some oe ∧ oe.data = .fields vs ∧ vs[1]? = some v
def CX1 (P : Program) (w : World) : CXT := fun outer H s E e s' => ∃ x C dx T H', e = .ref x ∧ s'.os = s.os ∧ AllBare s'.gens ∧ Un (frs outer) [] H H' s.heap s'.heap ∧ HOk P w H' s'.heap ∧ H' x = some (ExO false x C dx) ∧
 Fly s'.heap x (.ref T) ∧ wJ s'.heap T ∧ H' T = none ∧ s.heap.objs.size ≤ T ∧ E e none H'
section
variable {X : Cx} {pins : List (Addr × Obj)} {σ : St} {H H1 : Hp} {s s1 : Shared} {x C : Addr} {dx : Option Addr}
structure Rz (X : Cx) (pins : List (Addr × Obj)) (σ : St) (H1 : Hp) (s1 : Shared) (H : Hp) (x C : Addr) (dx : Option Addr) (T : Addr) (s : Shared) : Prop where
 pre : Inv X pins σ H1 s1
 os : s.os = s1.os
 bare : AllBare s.gens
 un : Un (frs X.stack) [] H1 H s1.heap s.heap
 hok : HOk X.prog X.w H s.heap
 at_ : H x = some (ExO false x C dx)
 fly : Fly s.heap x (.ref T)
 tb : wJ s.heap T
 off : H T = none
 new : s1.heap.objs.size ≤ T
theorem Rz.inv {T : Addr} (r : Rz X pins σ H1 s1 H x C dx T s) : Inv X pins σ H s := r.pre.call' r.os r.un r.hok r.bare (fun b z => absurd z (by simp))
theorem Lj {C : Addr} {dx : Option Addr} {t0 T : Addr} {a1 a2 a3 a4 a5 : Value} : ({ bQ C dx #[.ref t0, a1, a2, a3, a4, a5] with data := .fields ((#[.ref t0, a1, a2, a3, a4, a5] : Array Value).setIfInBounds 1 (.ref T)) } : Obj) = bQ C dx #[.ref t0, .ref T, a2, a3, a4, a5] := rfl
theorem Gn {old : Option Addr} {T : Addr} {h' : Heap} {t0 : Addr} {a2 a3 a4 a5 : Value} (hst : X.stack = X.env :: X.outer) (I : Inv X pins σ H1 s1) (os : s.os = s1.os) (bare : AllBare s.gens) (u : Un (frs X.stack) [] H1 H s1.heap s.heap) (hok : HOk X.prog X.w H s.heap) (hx : H x = some (ExO false x C dx)) (N : tU (frs (X.env :: X.outer)) x old s.heap h')
  (ex : h'.get? x = some (bQ C dx #[.ref t0, .ref T, a2, a3, a4, a5])) (hT : s.heap.objs.size ≤ T) (hs : s1.heap.objs.size ≤ s.heap.objs.size) (tb : wJ h' T) (hold : ∀ T0, old = some T0 → H T0 = none ∧ s1.heap.objs.size ≤ T0) : Rz X pins σ H1 s1 H x C dx T { s with heap := h' } where
 pre := I
 os := os
 bare := bare
 un := Br u N hx (fun T0 e => (hold T0 e).2) fun b hb => .inl (by rw [hst]; exact hb)
 hok := by
  have fr : ∀ b ∈ frs (X.env :: X.outer), H b = none := fun b hb => by
   have hb : b ∈ frs X.stack := by rw [hst]; exact hb
   obtain ⟨_, o, ho, _⟩ := I.stack.mem hb
   exact u.free b o ho (I.stkFree b hb) (by simp)
  exact Du hok N hx ⟨_, _, _, _, _, _, ex⟩ fr fun T0 e => (hold T0 e).1
 at_ := hx
 fly := ⟨_, _, ex, rfl, rfl⟩
 tb := tb
 off := hok.fresh hT
 new := Nat.le_trans hs hT
theorem CV {h : Heap} {t0 : Addr} {a1 a2 a3 a4 a5 v : Value} (e : h.get? x = some (bQ C dx #[.ref t0, a1, a2, a3, a4, a5])) (hf : Fly h x v) : (#[.ref t0, a1, a2, a3, a4, a5] : Array Value)[1]? = some v := by
 obtain ⟨oe, vs, e2, hd, h1⟩ := hf
 rw [e] at e2
 cases e2
 cases (show Data.fields #[.ref t0, a1, a2, a3, a4, a5] = .fields vs from hd)
 exact h1
theorem ql {M : Model} {A : Around} {E : Value → Shared → Prop} {Q : Unit → Shared → Prop} (hA : A.frames = some X.stack) (hst : X.stack = X.env :: X.outer) (hfm : X.env.frame = some X.env.locals) (I : Inv X pins σ H1 s1) (os : s.os = s1.os) (bare : AllBare s.gens) (u : Un (frs X.stack) [] H1 H s1.heap s.heap) (hok : HOk X.prog X.w H s.heap)
  (hs : s1.heap.objs.size ≤ s.heap.objs.size) (hx : H x = some (ExO false x C dx)) (hf : Fly s.heap x .none ∨ ∃ T0, Fly s.heap x (.ref T0) ∧ wJ s.heap T0 ∧ H T0 = none ∧ s1.heap.objs.size ≤ T0)
  (q : ∀ T s', Rz X pins σ H1 s1 H x C dx T s' → Q () s') : wpAny M A (noteFrame (.ref x) X.env) (fun _ s' => wpAny M A (setFlight (.ref x) none) Q E s') E s := by
 obtain ⟨t0, a1, a2, a3, a4, a5, e, _⟩ := iT hok hx
 have fun2 : s.heap.FunFrames X.base (X.env :: X.outer) := by
  have f := (I.call' os u hok bare (fun b z => absurd z (by simp))).stack
  rwa [hst] at f
 rcases hf with hf | ⟨T0, hf, hT0, hn, hz⟩
 ·refine xH (hA.trans (congrArg some hst)) fun2 hfm e rfl (CV e hf) fun h' T N ex hT tb => q T _ ?_
  exact Gn hst I os bare u hok hx N (ex.trans (congrArg some Lj)) hT hs tb fun T0 z => by cases z
 ·refine zP (hA.trans (congrArg some hst)) fun2 hfm e rfl (CV e hf) hT0 (aF hx hn).symm fun h' T N ex hT tb => q T _ ?_
  exact Gn hst I os bare u hok hx N (ex.trans (congrArg some Lj)) hT hs tb fun T1 z => by cases z; exact ⟨hn, hz⟩
theorem Rz.flight {M : Model} {A : Around} {E : Value → Shared → Prop} {Q : Unit → Shared → Prop} {T : Addr} (r : Rz X pins σ H1 s1 H x C dx T s) (q : ∀ s', Rz X pins σ H1 s1 H x C dx T s' → Q () s') : wpAny M A (setFlight (.ref x) none) Q E s := by
 obtain ⟨oe, vs, e, hd, h1⟩ := id r.fly
 obtain ⟨oT, ts, hT, hdT, h3⟩ := id r.tb
 have hne : x ≠ T := aF r.at_ r.off
 refine wpAny_setFlight_none e hd h1 hT hdT (Array.getElem?_eq_some_iff.mp h3).1 (q _ ?_)
 have t1 := Heap.get?_update_self (h := s.heap) (Obj.mapFields (·.setIfInBounds 3 Value.none)) hT (by rw [Dh hdT]; exact qC rfl)
 have o1 : ∀ b, b ≠ T → (s.heap.update T (Obj.mapFields (·.setIfInBounds 3 Value.none))).get? b = s.heap.get? b := fun b hb => Heap.get?_update_other _ _ (Ne.symm hb)
 rw [Dh hdT] at t1
 have hs3 := (Array.getElem?_eq_some_iff.mp h3).1
 generalize s.heap.update T (Obj.mapFields (·.setIfInBounds 3 Value.none)) = g at t1 o1
 have nt : ∀ b o, s1.heap.get? b = some o → b ≠ T := fun b o z => Nat.ne_of_lt (Nat.lt_of_lt_of_le (Heap.lt_size z) r.new)
 refine ⟨r.pre, r.os, r.bare, ⟨fun b o z n hb he => (o1 b (nt b o z)).trans (r.un.keep b o z n hb he), fun b o z n hb he => ?_, r.un.free, fun b o z he => ?_, r.un.tups, r.un.frzs, r.un.tbls⟩, fun a o z => ?_, r.at_, ⟨oe, vs, (o1 x hne).trans e, hd, h1⟩, ⟨_, _, t1, rfl, by simp [hs3]⟩, r.off, r.new⟩
 ·obtain ⟨sl, w⟩ := r.un.slot b o z n hb he
  exact ⟨sl, (o1 b (nt b o z)).trans w⟩
 ·obtain ⟨o', w⟩ := r.un.there b o z he
  exact ⟨o', (o1 b (nt b o z)).trans w⟩
 ·refine (r.hok a o z).stay (fun b u hb w => ?_) (fun _ w => w) fun _ _ w => w
  refine (o1 b fun k => ?_).trans w
  subst k
  rcases hb with rfl | hb
  ·have := r.off; rw [z] at this; cases this
  ·have := r.off; rw [hb] at this; cases this
end
section
variable {P : Program} {w : World} {K : PySem.W.Frag} {mg : Str → Option Value} {base : Heap} {N : List Str} {qual : Str} {scope : Scope} {f : Addr} {cd : Value} {A : Around} {outer : List Env} {s : Shared} {H : Hp} {E E1 : XK}
theorem leave1 {pins : List (Addr × Obj)} {σ : St} {H1 : Hp} {s1 : Shared} {x C : Addr} {dx : Option Addr} (I : Inv (mV (CX1 P w) P w K mg base N qual scope f cd A outer s H E) pins σ H1 s1) (hx : H1 x = some (ExO false x C dx)) (hf : Fly s1.heap x .none) (q : E (.ref x) none H1) :
  (mV (CX1 P w) P w K mg base N qual scope f cd A outer s H E).xe (.ref x) s1 := by
 show wpAny _ _ (leaving _ _) _ _ _
 unfold leaving
 refine wpAny_bind (ql (X := mV (CX1 P w) P w K mg base N qual scope f cd A outer s H E) I.ok.frames rfl rfl I rfl I.bare Un.refl I.hok (Nat.le_refl _) hx (.inl hf) fun T s' r => ?_)
 exact ⟨x, C, dx, T, H1, rfl, r.inv.os, r.bare, r.inv.base, r.hok, hx, r.fly, r.tb, r.off, Nat.le_trans I.sz r.new, q⟩
theorem Q0 (hE : ∀ e H', E1 e none H' → E e none H') : jl (CX1 P w) (mV (CX1 P w) P w K mg base N qual scope f cd A outer s H E) E1 := fun pins σ H1 s1 e s' I h => by
 obtain ⟨x, C, dx, T, H', rfl, os, bare, un, hok, hx, fl, tb, hn, hz, q⟩ := h
 show wpAny _ _ (leaving _ _) _ _ _
 unfold leaving
 have hs : s1.heap.objs.size ≤ s'.heap.objs.size := Nat.le_trans hz (Nat.le_of_lt (by obtain ⟨_, _, e, _⟩ := tb; exact Heap.lt_size e))
 refine wpAny_bind (ql (X := mV (CX1 P w) P w K mg base N qual scope f cd A outer s H E) I.ok.frames rfl rfl I os bare un hok hs hx (.inr ⟨T, fl, tb, hn, hz⟩) fun T2 s2 r => ?_)
 exact ⟨x, C, dx, T2, H', rfl, r.inv.os, r.bare, r.inv.base, r.hok, hx, r.fly, r.tb, r.off, Nat.le_trans I.sz r.new, hE _ _ q⟩
end
structure uJ (X : Cx) (W : St → XK) : Prop where
 made : ∀ {pins : List (Addr × Obj)} {σ : St} {H : Hp} {s : Shared} {x C : Addr} {dx : Option Addr}, Inv X pins σ H s → H x = some (ExO false x C dx) → Fly s.heap x .none → W σ (.ref x) none H → X.xe (.ref x) s
 came : ∀ {pins : List (Addr × Obj)} {σ : St} {H : Hp} {s s' : Shared} {e : Value}, Inv X pins σ H s → CX1 X.prog X.w X.stack H s (W σ) e s' → X.xe e s'
theorem jw {P : Program} {w : World} {K : PySem.W.Frag} {mg : Str → Option Value} {base : Heap} {N : List Str} {qual : Str} {scope : Scope} {f : Addr} {cd : Value} {A : Around} {outer : List Env} {s : Shared} {H : Hp} {E : XK} :
  uJ (mV (CX1 P w) P w K mg base N qual scope f cd A outer s H E) (fun _ => E) :=
 ⟨fun I hx hf q => leave1 I hx hf q, fun {pins σ H1 s1 s' e} I h => Q0 (fun _ _ q => q) pins σ H1 s1 e s' I h⟩
section
variable {X : Cx} {W : St → XK} {k : Nat} {f C : Addr} {fd : FuncData} {ps : List Str} {sp : Sp} {x : Str} {st : Stmt} {p pos rpos : Pos} {e : Expr} {es : List Expr} {t : TA}
def G3 (sp : Sp) (W : St → XK) (t : TA) : TE := fun σ H Q => t σ H fun vs H1 => sp vs H1 Q (W σ)
theorem zq {pins : List (Addr × Obj)} {σ : St} {H : Hp} {s : Shared} {Q : VK} {us : List Value} {vs : List V} (hw : uJ X W) (F : aK X.prog X.w X.K X.mg X.base (CX1 X.prog X.w) k f fd ps sp) (hr : aR k X.A) (hb : Binds X.K fd ps [])
  (I : Inv X pins σ H s) (r : Vals vs us) (h : sp vs H Q (W σ)) : wpAny (model X.prog X.w) X.A (call (.ref f) us) (EP X pins σ Q) X.xe s := by
 have hl : (us ++ []).length = ps.length := by rw [List.append_nil, ← r.length]; exact F.len _ _ _ _ h
 refine wpAny_call (codeAny_mono (F.run X.A X.stack s H ⟨us, []⟩ (us ++ []) vs Q (W σ) hr I.env0 (hb s us I.kIn hl) (by rw [List.append_nil]; exact r) h) fun r s' hq => ?_)
 cases r with
 | error e => exact hw.came I hq
 | ok fl =>
  cases fl with
  | ret u => exact I.after hq
  | next => exact False.elim hq
  | brk => exact False.elim hq
  | cont => exact False.elim hq
theorem lq (A : FnAt X.K X.mg x st ps f fd) (F : aK X.prog X.w X.K X.mg X.base (CX1 X.prog X.w) k f fd ps sp) (hr : aR k X.A) (hw : uJ X W) (ha : PA X (e :: es) t) (hg : Gl X x := by rfl) (hdb : (x == ("__debug__" : Str)) = false := by decide) (he : starEach (e :: es) X.env = (false, eval e X.env) :: starEach es X.env := by rfl) (hpl : (backTo pos (starEach es X.env)).any (·.1) = false := by rfl) :
  PE X (.Call (.Name x p) (e :: es) [] pos) (G3 sp W t) := by
 intro pins s σ H Q I h
 refine wpAny_Call_Name_kw (jP I hg A.m ?_ hdb)
 refine PySem.W.callWith_K (h₀ := X.base) I.ok.mod.kin A.F.kp (thn (ha pos pins s σ H _ I h) fun us s1 ⟨vs, H1, I1, r, q⟩ => ⟨I1.kIn, ?_⟩) he hpl
 exact zq hw F hr A.b I1 r q
end
section
variable {P : Program} {w : World} {K : PySem.W.Frag} {mg : Str → Option Value} {base : Heap}
theorem Fun.okX {x qual : Str} {st : Stmt} {f : Addr} {fd : FuncData} {N ps : List Str} {k : Nat} {sp : Sp} (F : Fun K x qual st f fd) (S : aH N ps (aD st)) (len : ∀ vs H Q E, sp vs H Q E → vs.length = ps.length)
  (hbody : ∀ (cdv : Value) (A : Around) (outer : List Env) (s : Shared) (H : Hp) (vs : List V) (Q : VK) (E : XK), aR k (A.deeper (envOfC qual (aD st) s.heap.objs.size f cdv)) → sp vs H Q E →
   ∃ t, PSs (mV (CX1 P w) P w K mg base N qual (aD st) f cdv A outer s H E) (bJ st) t ∧ t { nx := fun _ H' => Q .non H', rt := Q } (start N vs) H) : aK P w K mg base (CX1 P w) (k + 1) f fd ps sp := by
 obtain ⟨oc, od, kV, doc, pm, an, cdv, ct, osl, rfl, lk, hcd⟩ := F.ex
 exact GD lk hcd S len fun A outer s H vs Q E hr h => hbody cdv A outer s H vs Q E hr h
end
section
variable {M : Model} {A : Around} {E : Value → Shared → Prop} {s : Shared} {env : Env}
theorem Ah {x : Sem Value} {Q : Flow → Shared → Prop} (hh : A.handled = none)
  (h : wpAny M A x (fun v s1 => ∃ e C dx vs, ∃ nm q N bs bm hdct sn sub ab col dd k0 k1 k2 k3 k5 nid, v = .ref e ∧ s1.heap.get? C = some (excClassObj nm q C N bs bm hdct sn sub ab col dd k0 k1 k2 k3 k5 nid) ∧ bm.contains (.type "BaseException") = true ∧ s1.heap.get? e = some (bQ C dx vs) ∧ vs[1]? = some .none ∧ E (.ref e) s1) E s) :
  wpAny M A (raiseStmt env (some x) none) Q E s := by
 unfold raiseStmt
 refine wpAny_bind (thn h fun v s1 hz => ?_)
 obtain ⟨e, C, dx, vs, nm, q, N, bs, bm, hdct, sn, sub, ab, col, dd, k0, k1, k2, k3, k5, nid, rfl, hC, hb, he, h1, hE⟩ := hz
 obtain ⟨hp, g, d, t, os⟩ := s1
 refine wpAny_bind (wpAny_pure ?_)
 have nt : ∀ {Q2 : Bool → Shared → Prop}, Q2 false ⟨hp, g, d, t, os⟩ → wpAny M A (isType (.ref e)) Q2 E ⟨hp, g, d, t, os⟩ := fun {Q2} h2 => by
  unfold isType loadHead
  exact wpAny_bind (wpAny_loadPart he (wpAny_pure h2))
 refine wpAny_bind (wpAny_holding ?_)
 unfold excFromValue isExcClass isInstance
 refine wpAny_bind (wpAny_bind (nt ?_))
 rw [if_neg (by decide)]
 refine wpAny_pure ?_
 rw [if_neg (by decide)]
 refine wpAny_bind (wpAny_bind (wpAny_typeOf_ref he (wpAny_isSubtype_exc hC ?_)))
 rw [List.contains_cons, hb, Bool.or_true, if_pos rfl]
 refine wpAny_pure ?_
 dsimp only
 refine wpAny_bind (nt ?_)
 rw [if_neg (by decide)]
 unfold raisedInstance
 refine wpAny_bind (wpAny_bind (wpAny_typeOf_ref he (wpAny_bind (wpAny_typeOf_ref hC ?_))))
 rw [if_pos (show ((excClassObj nm q C N bs bm hdct sn sub ab col dd k0 k1 k2 k3 k5 nid).cls == Value.type "type") = true from by rfl)]
 refine wpAny_pure ?_
 unfold setFlight
 refine wpAny_bind (wpAny_bind (wpAny_field he rfl h1 ?_))
 rw [if_neg (by decide)]
 exact wpAny_pure (wpAny_raiseNew_none hh hE)
end
theorem tX {h : Heap} {bm : List Value} (T : OwnTail h qR bm) : bm.contains (.type "BaseException") = true := by
 induction T with
 | base => rfl
 | own _ _ _ _ ih => rw [List.contains_cons, ih, Bool.or_true]
section
variable {X : Cx} {W : St → XK} {pos : Pos} {e : Expr} {te : TE}
theorem Inv.flown {pins : List (Addr × Obj)} {σ : St} {H : Hp} {s : Shared} {x C : Addr} {dx : Option Addr} {fl : Bool} (I : Inv X pins σ H s) (hx : H x = some (ExO fl x C dx)) : Inv X pins σ (upd H x (ExO false x C dx)) s := by
 obtain ⟨t0, a1, a2, a3, a4, a5, e, _⟩ := iT I.hok hx
 exact I.write (x := x) (e := x) (o := ExO false x C dx) (t' := s.toks) (h' := s.heap) (by rw [hx]; exact True.intro) (.inl rfl) (fun b o hb q => q) ⟨_, e⟩ (sE e (fun z => by cases z))
def Hj (K : Frag) (W : St → XK) (te : TE) : TS := fun _ σ H => te σ H fun v H1 => ∃ x C dx, v = .ref x ∧ H1 x = some (ExO true x C dx) ∧ ExC K C ∧ W σ (.ref x) none (upd H1 x (ExO false x C dx))
theorem wA (hw : uJ X W) (hc : X.calm = true) (he : PE X e te) : QS X (.Raise (some e) none pos) (Hj X.K W te) := ⟨by
 intro pins s σ H D I h
 rw [arm_exec_Raise]
 refine wpAny_bind (wpAny_standAt ?_)
 refine Ah (x := do let v ← eval e X.env; standAt pos; pure v) (I.ok.hd hc) (wpAny_bind (thn (he pins s σ H _ I h) fun u s1 hz => ?_))
 obtain ⟨vv, H1, I1, r, x, C, dx, rfl, hx, c, q⟩ := hz
 obtain rfl : u = Value.ref x := r
 obtain ⟨nm, q', N, bs, bm, hdct, sn, sub, ab, col, dd, k0, k1, k2, k3, k5, hcl, hT⟩ := c
 obtain ⟨t0, a1, a2, a3, a4, a5, e1, hn⟩ := iT I1.hok hx
 have h1 : (#[.ref t0, a1, a2, a3, a4, a5] : Array Value)[1]? = some .none := by rw [hn rfl]; rfl
 refine wpAny_bind (wpAny_standAt (wpAny_pure ⟨x, C, dx, _, nm, q', N, bs, bm, hdct, sn, sub, ab, col, dd, k0, k1, k2, k3, k5, _, rfl, I1.kIn _ _ hcl, tX (hT _ I1.kIn), e1, h1, ?_⟩))
 exact hw.made (I1.flown hx) ao ⟨_, _, e1, rfl, h1⟩ q⟩
end
theorem sub_tt : isSubtype (.type "type") (.type "tuple") = pure false := by kernel_rfl
section
variable {M : Model} {A : Around} {E : Value → Shared → Prop} {s : Shared}
theorem zV {x C D : Addr} {oe : Obj} {nm q nm' q' : Str} {N N' : Addr} {bs bm bs' bm' : List Value} {hdct hdct' : Bool} {sn sn' : List Str} {sub sub' : List Value} {ab ab' : Bool} {col col' : Option Bool} {dd dd' : Option Addr} {k0 k1 k2 k3 k5 k0' k1' k2' k3' k5' : Option Value} {nid nid' : String} {Q : Bool → Shared → Prop}
  (hC : s.heap.get? C = some (excClassObj nm q C N bs bm hdct sn sub ab col dd k0 k1 k2 k3 k5 nid)) (hD : s.heap.get? D = some (excClassObj nm' q' D N' bs' bm' hdct' sn' sub' ab' col' dd' k0' k1' k2' k3' k5' nid'))
  (he : s.heap.get? x = some oe) (hc : oe.cls = .ref C) (hb : bm'.contains (.type "BaseException") = true) (h : Q ((Value.ref C :: bm).contains (.ref D)) s) : wpAny M A (excMatches (.ref x) (.ref D)) Q E s := by
 obtain ⟨hh, g, d, t, os⟩ := s
 unfold excMatches isInstance
 refine wpAny_bind (wpAny_bind (wpAny_typeOf_ref hD ?_))
 show wpAny M A (isSubtype (.type "type") (.type "tuple")) _ E _
 rw [sub_tt]
 refine wpAny_pure ?_
 rw [if_neg (by decide)]
 refine wpAny_bind (wpAny_pure ?_)
 have exc : ∀ {Q2 : Bool → Shared → Prop}, Q2 true ⟨hh, g, d, t, os⟩ → wpAny M A (isExcClass (.ref D)) Q2 E ⟨hh, g, d, t, os⟩ := fun {Q2} h2 => by
  unfold isExcClass isType loadHead
  refine wpAny_bind (wpAny_bind (wpAny_loadPart hD (wpAny_pure ?_)))
  rw [if_pos rfl]
  refine wpAny_isSubtype_exc hD ?_
  rw [List.contains_cons, hb, Bool.or_true]
  exact h2
 dsimp only
 rw [List.forIn_cons]
 refine wpAny_bind (wpAny_bind (wpAny_bind (exc ?_)))
 rw [if_neg (by decide)]
 refine wpAny_pure ?_
 dsimp only
 rw [List.forIn_nil]
 refine wpAny_pure ?_
 refine wpAny_bind (wpAny_typeOf_ref he ?_)
 rw [hc, List.forIn_cons]
 refine wpAny_bind (wpAny_bind (wpAny_bind (wpAny_isSubtype_exc hC ?_)))
 by_cases k : (Value.ref C :: bm).contains (.ref D) = true
 ·rw [if_pos k]
  rw [k] at h
  exact wpAny_pure (wpAny_pure (wpAny_pure h))
 ·have k2 : (Value.ref C :: bm).contains (.ref D) = false := by simpa using k
  rw [if_neg k]
  rw [k2] at h
  refine wpAny_pure ?_
  dsimp only
  rw [List.forIn_nil]
  exact wpAny_pure (wpAny_pure h)
end
section
variable {X : Cx} {pins : List (Addr × Obj)} {σ : St} {H : Hp} {s : Shared}
theorem HF {M : Model} {A : Around} {E : Value → Shared → Prop} {i : Nat} {x : Str} {v : V} {Q : Unit → Shared → Prop} (I : Inv X pins σ H s) (hN : X.N.Nodup) (hi : X.N[i]? = some x) (hk : X.env.scope.names.lookup x = some .local) (hσ : σ[i]? = some (some v))
  (h : ∀ s', Inv X pins (σ.set i none) H s' → Q () s') : wpAny M A (unbindName X.env x) Q E s := by
 obtain ⟨m, hn, hl⟩ := id I.loc
 have hcls : (X.env.scope.kind == .class || (X.env.scope.kind == .module && X.env.locals != X.env.globals)) = false := by rw [I.ok.kind]; rfl
 have hiσ : i < σ.length := by rw [I.len]; exact (List.getElem?_eq_some_iff.mp hi).1
 have cne := I.cne
 obtain ⟨u, _, hu⟩ := hl i x v hi hσ (.inl hk)
 have hm : m x = some u := by
  rcases hu with ⟨_, z⟩ | ⟨z, _⟩
  ·exact z
  ·have hk2 : X.env.kindOf x = some .local := hk
   rw [hk2] at z
   rcases z with z | z <;> cases z
 obtain ⟨oL, _, _, hoL, _⟩ := id hn
 refine wpAny_unbindName_local hk hn hm hcls (fun h' w hn' hs => ?_)
 refine h _ ⟨I.ok, I.os, I.bare, ⟨fun b o e n hb hx => ?_, fun b o e n hb hx => ?_, I.base.free, fun b o e hx => ?_, I.base.tups, I.base.frzs, I.base.tbls⟩, ⟨_, hn', fun j y v' e1 e2 e3 => ?_⟩, fun y c e => ?_, I.free, I.freeC, fun p hp => ?_, fun b ob e => ?_, by simpa using I.len⟩
 ·exact (hs.2 b (Nat.ne_of_lt (Nat.lt_of_lt_of_le (Heap.lt_size e) I.ok.above))).trans (I.base.keep b o e n hb hx)
 ·obtain ⟨sl, e1⟩ := I.base.slot b o e n hb hx
  exact ⟨sl, (hs.2 b (Nat.ne_of_lt (Nat.lt_of_lt_of_le (Heap.lt_size e) I.ok.above))).trans e1⟩
 ·obtain ⟨o', e1⟩ := I.base.there b o e hx
  exact ⟨o', (hs.2 b (Nat.ne_of_lt (Nat.lt_of_lt_of_le (Heap.lt_size e) I.ok.above))).trans e1⟩
 ·by_cases hj : j = i
  ·subst hj
   rw [List.getElem?_set_self hiσ] at e2
   cases e2
  ·rw [List.getElem?_set_ne (Ne.symm hj)] at e2
   obtain ⟨u', r', q⟩ := hl j y v' e1 e2 e3
   refine ⟨u', r', ?_⟩
   rcases q with ⟨k, e⟩ | ⟨k, c, e, z⟩
   ·refine .inl ⟨k, ?_⟩
    have : y ≠ x := fun e => hj (rK hN e1 (e ▸ hi))
    simp [this, e]
   ·exact .inr ⟨k, c, e, z.sameBut hs (cne y c e)⟩
 ·obtain ⟨w', z⟩ := I.cell y c e
  exact ⟨w', z.sameBut hs (cne y c e)⟩
 ·obtain ⟨e, n, ne, nf, d⟩ := I.pin p hp
  exact ⟨(hs.2 p.1 ne).trans e, n, ne, nf, d⟩
 ·refine (I.hok b ob e).stay (fun c w' hc q => (hs.2 c ?_).trans q) (fun _ q => q) fun _ _ q => q
  rintro rfl
  rcases hc with rfl | hc
  ·rw [I.free] at e; cases e
  ·rw [I.free] at hc; cases hc
theorem qK {M : Model} {A : Around} {E : Value → Shared → Prop} {i : Nat} {x : Str} {pos : Pos} {Q : Unit → Shared → Prop} (I : Inv X pins σ H s) (hN : X.N.Nodup) (hi : X.N[i]? = some x) (hk : X.env.scope.names.lookup x = some .local)
  (h : ∀ s', Inv X pins (σ.set i none) H s' → Q () s') : wpAny M A (do bindName X.env x Value.none; unbindBehindTheSuite X.env x pos) Q E s := by
 have hiσ : i < σ.length := by rw [I.len]; exact (List.getElem?_eq_some_iff.mp hi).1
 refine wpAny_bind (wpAny_bindName (oJ I hN hi (.inl hk) (v := V.non) rfl (fun s' I' => ?_) (.inr hk)))
 unfold unbindBehindTheSuite
 refine wpAny_onRaise (HF I' hN hi hk (List.getElem?_set_self hiσ) fun s2 I2 => ?_)
 rw [List.set_set] at I2
 exact h s2 I2
end
abbrev Cx.tryc (X : Cx) (pins : List (Addr × Obj)) (E : Value → Shared → Prop) : Cx := { X with xe := E, pn := X.pn ++ pins }
abbrev Cx.hand (X : Cx) (x : Addr) (pins : List (Addr × Obj)) (E : Value → Shared → Prop) : Cx := { X with A := X.A.mark (some (.ref x)), calm := false, xe := E, pn := X.pn ++ pins }
section
variable {X : Cx} {pins pins' : List (Addr × Obj)} {σ : St} {H : Hp} {s : Shared} {E : Value → Shared → Prop} {x : Addr}
theorem Inv.tryc (I : Inv X pins σ H s) : Inv (X.tryc pins E) [] σ H s :=
 ⟨⟨I.ok.mod, I.ok.kind, I.ok.glob, I.ok.blt, I.ok.above, I.ok.inj, I.ok.has, I.ok.cab, I.ok.hd, I.ok.frames, I.ok.stk, I.ok.exf, I.ok.bs, I.ok.bsz, I.ok.noex, I.ok.exfs, I.ok.funs, I.ok.frf⟩, I.os, I.bare, I.base, I.loc, I.cell, I.free, I.freeC, fun p hp => I.pin p (by simpa using hp), I.hok, I.len⟩
theorem Inv.untry (I : Inv (X.tryc pins E) pins' σ H s) : Inv X pins σ H s :=
 ⟨⟨I.ok.mod, I.ok.kind, I.ok.glob, I.ok.blt, I.ok.above, I.ok.inj, I.ok.has, I.ok.cab, I.ok.hd, I.ok.frames, I.ok.stk, I.ok.exf, I.ok.bs, I.ok.bsz, I.ok.noex, I.ok.exfs, I.ok.funs, I.ok.frf⟩, I.os, I.bare, I.base, I.loc, I.cell, I.free, I.freeC, fun p hp => I.pin p (List.mem_append_left _ hp), I.hok, I.len⟩
theorem Inv.hand (I : Inv X pins σ H s) : Inv (X.hand x pins E) [] σ H s :=
 ⟨⟨I.ok.mod, I.ok.kind, I.ok.glob, I.ok.blt, I.ok.above, I.ok.inj, I.ok.has, I.ok.cab, (fun z => by cases z), I.ok.frames, I.ok.stk, I.ok.exf, I.ok.bs, I.ok.bsz, I.ok.noex, I.ok.exfs, I.ok.funs, I.ok.frf⟩, I.os, I.bare, I.base, I.loc, I.cell, I.free, I.freeC, fun p hp => I.pin p (by simpa using hp), I.hok, I.len⟩
theorem Inv.unhand (ok : X.Ok) (I : Inv (X.hand x pins E) pins' σ H s) : Inv X pins σ H s :=
 ⟨ok, I.os, I.bare, I.base, I.loc, I.cell, I.free, I.freeC, fun p hp => I.pin p (List.mem_append_left _ hp), I.hok, I.len⟩
end
def Sub (K : Frag) (C D : Addr) : Prop := ∃ nm q N bs bm hdct sn sub ab col dd k0 k1 k2 k3 k5 nid, K.lookup C = some (excClassObj nm q C N bs bm hdct sn sub ab col dd k0 k1 k2 k3 k5 nid) ∧ (Value.ref C :: bm).contains (.ref D) = true
def Ends.off (En : Ends) (i : Nat) : Ends := { nx := fun σ H => En.nx (σ.set i none) H, rt := En.rt, bk := fun σ H => En.bk (σ.set i none) H, ct := fun σ H => En.ct (σ.set i none) H }
section
variable {X : Cx} {pins : List (Addr × Obj)} {σ : St} {H0 H1 : Hp} {s0 s2 : Shared} {x C D T : Addr} {dx : Option Addr} {cx n : Str} {i : Nat} {np hpos pos : Pos} {b₀ : Stmt} {suite body orelse : List Stmt} {rest : List ExceptHandler} {ts to : TS} {En : Ends} {E : Value → Shared → Prop}
theorem Rz.as {C2 : Addr} {dx2 : Option Addr} (r : Rz X pins σ H0 s0 H1 x C dx T s2) (h : H1 x = some (ExO false x C2 dx2)) : Rz X pins σ H0 s0 H1 x C2 dx2 T s2 := ⟨r.pre, r.os, r.bare, r.un, r.hok, h, r.fly, r.tb, r.off, r.new⟩
theorem FP (r : Rz X pins σ H0 s0 H1 x C dx T s2) (sub : Sub X.K C D) (exD : ExC X.K D) (hg : Gl X cx) (hm : X.mg cx = some (.ref D)) (hdb : (cx == ("__debug__" : Str)) = false) (hN : X.N.Nodup) (hi : X.N[i]? = some n) (hk : X.env.scope.names.lookup n = some .local)
  (hs : QSs (X.hand x pins fun _ _ => False) (b₀ :: suite) ts) (q : ts (En.off i) (σ.set i (some (.ref x))) H1) :
  wpAny (model X.prog X.w) X.A (handleBy (.ref x) X.env (.ExceptHandler (some (.Name cx np)) (some n) (b₀ :: suite) hpos :: rest)) (SP X pins En) E s2 := by
 have Ih := r.inv.hand (x := x) (E := fun _ _ => False)
 refine wpAny_handleBy_cons (codeAny_handlers_test (jP Ih hg hm ?_ hdb)) (by intro z; cases z)
 obtain ⟨nm, q', N, bs, bm, hdct, sn, sb, ab, col, dd, k0, k1, k2, k3, k5, hcl, hT⟩ := exD
 obtain ⟨nm2, q2, N2, bs2, bm2, hdct2, sn2, sb2, ab2, col2, dd2, j0, j1, j2, j3, j5, nid, hcl2, hcon⟩ := sub
 obtain ⟨t0, a1, a2, a3, a4, a5, e, _⟩ := iT r.hok r.at_
 refine zV (r.inv.kIn _ _ hcl2) (r.inv.kIn _ _ hcl) e rfl (tX (hT _ r.inv.kIn)) ?_
 rw [hcon]
 show codeAny _ _ (Code.handlers _ [ExceptHandler.ExceptHandler none (some n) (b₀ :: suite) hpos] _) _ _
 refine codeAny_handlers_suite_as (r.flight fun s3 r3 => ?_)
 refine oJ (X := X.hand x pins fun _ _ => False) (pins := []) r3.inv.hand hN hi (.inl hk) (v := V.ref x) rfl (fun s4 I4 => ?_) (.inr hk)
 refine wpAny_mono (hs.h [] s4 _ _ _ I4 q) (fun f s5 q5 => ?_) (fun e s5 z => z.elim)
 cases f with
 | next => obtain ⟨σ', H', I', q'⟩ := q5; exact qK (I'.unhand r.inv.ok) hN hi hk fun s6 I6 => ⟨_, _, I6, q'⟩
 | brk => obtain ⟨σ', H', I', q'⟩ := q5; exact qK (I'.unhand r.inv.ok) hN hi hk fun s6 I6 => ⟨_, _, I6, q'⟩
 | cont => obtain ⟨σ', H', I', q'⟩ := q5; exact qK (I'.unhand r.inv.ok) hN hi hk fun s6 I6 => ⟨_, _, I6, q'⟩
 | ret u => obtain ⟨v, σ', H', I', rv, q'⟩ := q5; exact qK (I'.unhand r.inv.ok) hN hi hk fun s6 I6 => ⟨v, _, _, I6, rv, q'⟩
abbrev rT (X : Cx) (pins : List (Addr × Obj)) (hs : List ExceptHandler) (En : Ends) : Value → Shared → Prop := fun e s1 => wpAny (model X.prog X.w) X.A (noteFrame e X.env) (fun _ s2 => wpAny (model X.prog X.w) X.A (setFlight e none) (fun _ s3 => wpAny (model X.prog X.w) X.A (handleBy e X.env hs) (SP X pins En) X.xe s3) X.xe s2) X.xe s1
theorem wU {hs : List ExceptHandler} {W : St → XK} (hst : X.stack = X.env :: X.outer) (hfm : X.env.frame = some X.env.locals)
  (h : ∀ {σ : St} {H0 H1 : Hp} {s0 s2 : Shared} {x C T : Addr} {dx : Option Addr}, Rz X pins σ H0 s0 H1 x C dx T s2 → W σ (.ref x) none H1 → wpAny (model X.prog X.w) X.A (handleBy (.ref x) X.env hs) (SP X pins En) X.xe s2) : uJ (X.tryc pins (rT X pins hs En)) W where
 made := fun {pins' σ H s x C dx} I hx hf q => ql (X := X) I.ok.frames hst hfm I.untry rfl I.bare Un.refl I.hok (Nat.le_refl _) hx (.inl hf) fun T s' r => h r q
 came := fun {pins' σ H s s' e} I z => by
  obtain ⟨x, C, dx, T, H', rfl, os, bare, un, hok, hx, fl, tb, hn, hz, q⟩ := z
  have hs : s.heap.objs.size ≤ s'.heap.objs.size := Nat.le_trans hz (Nat.le_of_lt (by obtain ⟨_, _, e, _⟩ := tb; exact Heap.lt_size e))
  exact ql (X := X) I.ok.frames hst hfm I.untry os bare un hok hs hx (.inr ⟨T, fl, tb, hn, hz⟩) fun T2 s2 r => h r q
def Hu (K : Frag) (D : Addr) (i : Nat) (tb : (St → XK) → TS) (to ts : TS) : TS := fun En σ H =>
 tb (fun σ1 e _ H1 => ∃ x C dx, e = .ref x ∧ H1 x = some (ExO false x C dx) ∧ Sub K C D ∧ ts (En.off i) (σ1.set i (some (.ref x))) H1) { En with nx := fun σ2 H2 => to En σ2 H2 } σ H
theorem G8 {hs : List ExceptHandler} {h₀ : ExceptHandler} {W : St → XK} {tb : (St → XK) → TS} {s : Shared} {H : Hp} (hw : uJ (X.tryc pins (rT X pins (h₀ :: hs) En)) W) (hb : QSs (X.tryc pins (rT X pins (h₀ :: hs) En)) body (tb W)) (ho : QSs X orelse to) (I : Inv X pins σ H s)
  (h : tb W { En with nx := fun σ2 H2 => to En σ2 H2 } σ H) : wpAny (model X.prog X.w) X.A (exec (.Try body (h₀ :: hs) orelse [] pos) X.env) (SP X pins En) X.xe s := by
 refine wpAny_Try_except (wpAny_mono (hb.h [] s σ H _ I.tryc h) (fun f s1 q => ?_) (fun e s1 q => q))
 cases f with
 | next => obtain ⟨σ', H', I', q'⟩ := q; exact ho.h pins s1 σ' H' En I'.untry q'
 | brk => obtain ⟨σ', H', I', q'⟩ := q; exact ⟨_, _, I'.untry, q'⟩
 | cont => obtain ⟨σ', H', I', q'⟩ := q; exact ⟨_, _, I'.untry, q'⟩
 | ret u => obtain ⟨v, σ', H', I', rv, q'⟩ := q; exact ⟨v, _, _, I'.untry, rv, q'⟩
theorem BV {tb : (St → XK) → TS} (exD : ExC X.K D) (hm : X.mg cx = some (.ref D)) (hN : X.N.Nodup) (hi : X.N[i]? = some n) (hk : X.env.scope.names.lookup n = some .local) (hst : X.stack = X.env :: X.outer) (hfm : X.env.frame = some X.env.locals)
  (hb : ∀ pins E W, uJ (X.tryc pins E) W → QSs (X.tryc pins E) body (tb W)) (ho : QSs X orelse to) (hs : ∀ x pins, QSs (X.hand x pins fun _ _ => False) (b₀ :: suite) ts) (hg : Gl X cx := by rfl) (hdb : (cx == ("__debug__" : Str)) = false := by decide) :
  QS X (.Try body [.ExceptHandler (some (.Name cx np)) (some n) (b₀ :: suite) hpos] orelse [] pos) (Hu X.K D i tb to ts) := ⟨by
 intro pins s σ H En I h
 refine G8 (tb := tb) (wU hst hfm fun {σ1 H0 H1 s0 s2 x C T dx} r q => ?_) (hb pins _ _ (wU hst hfm fun {σ1 H0 H1 s0 s2 x C T dx} r q => ?_)) ho I h
 all_goals
  obtain ⟨x2, C2, dx2, ex, hx2, sub, q2⟩ := q
  cases ex
  exact FP (r.as hx2) sub exD hg hm hdb hN hi hk (hs x pins) q2⟩
end
section
variable {X : Cx} {W : St → XK} {k : Nat} {f C : Addr} {fd : FuncData} {ps : List Str} {sp : Sp} {m : Str} {p pos apos : Pos} {e o : Expr} {es : List Expr} {ta : TE} {t : TA}
def Hk (C : Addr) (m : Str) (sp : Sp) (W : St → XK) (ta : TE) (t : TA) : TE := fun σ H Q => ta σ H fun x H1 => ∃ a dx fs, x = .ref a ∧ H1 a = some (.ins C dx fs) ∧ fs.lookup m = none ∧ t σ H1 fun vs H2 => sp (x :: vs) H2 Q (W σ)
theorem DY {pl : Sem Bool} (he : PE X o ta) (c : Cls X.K C) (hm : Meth X.K C m f) (F : aK X.prog X.w X.K X.mg X.base (CX1 X.prog X.w) k f fd ps sp) (hr : aR k X.A) (hb : Binds X.K fd ps []) (hw : uJ X W) (ha : PA X (e :: es) t)
  (hst : starEach (e :: es) X.env = (false, eval e X.env) :: starEach es X.env := by rfl) (hpl : (backTo pos (starEach es X.env)).any (·.1) = false := by rfl)
  (ht : eval (.Call (.Attribute o m apos) (e :: es) [] pos) X.env = (do
   let ov ← eval o X.env
   standAt apos.atName
   let (f, first) ← holding [ov] (getMethod ov m pl)
   callWith pos f first (backTo pos (starEach (e :: es) X.env)) (backToKw pos (keywordEach [] X.env))) := by rfl) :
  PE X (.Call (.Attribute o m apos) (e :: es) [] pos) (Hk C m sp W ta t) := by
 intro pins s σ H Q I h
 refine PySem.W.methodCall_KW (pl := pl) (thn (he pins s σ H _ I h) fun u s1 ⟨x, H1, I1, rx, a, dx, fs, ex, ea, l, q⟩ => ?_) ht
 subst ex
 obtain rfl : u = Value.ref a := rx
 refine kY I1 ea c hm l ?_
 refine PySem.W.callWith_K (first := [.ref a]) (h₀ := X.base) I.ok.mod.kin hm.kp (thn (ha pos pins s1 σ H1 _ I1 q) fun us s2 ⟨vs, H2, I2, r, q2⟩ => ⟨I2.kIn, ?_⟩) hst hpl
 exact zq (us := .ref a :: us) (vs := .ref a :: vs) hw F hr hb I2 (.cons rfl r) q2
theorem wV : MtR X "str.count" (fun x vs H Q => ∃ z y, x = .str z ∧ vs = [.str y] ∧ Q (.int (Txt.count z y)) H) := by
 intro pins s σ H x vs v us Q I rx rv h
 obtain ⟨z, y, rfl, rfl, q⟩ := h
 obtain ⟨t, rfl⟩ := rx
 obtain ⟨u, rfl, t2, rfl⟩ := vals1 rv
 exact SC.count ⟨.int _, H, I.tok _, ⟨_, rfl⟩, q⟩
theorem nD : uJ X (fun _ => E0) := ⟨fun _ _ _ q => q.elim, fun _ z => by obtain ⟨_, _, _, _, _, _, _, _, _, _, _, _, _, _, _, q⟩ := z; exact q.elim⟩
theorem uM {K : Frag} (h : X.K = K) : OpR X (compareOp .In) (rIn K false) := by subst h; exact jD
theorem qF {K : Frag} {m : Str} (h : X.K = K) (he : PE X e ta) (hb : attributeBase e m X.env (eval e X.env) = eval e X.env) : PE X (.Attribute e m pos) (Pn K ta m) := by subst h; exact cJ he hb
theorem vW : ∀ {ys : List Str} {us : List Value}, Vals (ys.map V.str) us → StrsAre us ys
 | [], _, h => by cases h; exact .nil
 | y :: ys, _, h => by
  cases h with
  | cons r t =>
   obtain ⟨tk, rfl⟩ := r
   exact .cons y tk (vW t)
theorem qP : ∀ {ys : List Str} {us : List Value}, StrsAre us ys → Vals (ys.map V.str) us
 | _, _, .nil => .nil
 | _, _, .cons y t h => .cons ⟨t, rfl⟩ (qP h)
theorem gB : jE X (.builtin "sorted") (fun xs H Q => ∃ p ys, xs = [.ref p] ∧ SqL X.K H p (ys.map V.str) ∧ ys.length < 64 ∧ ∀ l ys', ys'.Perm ys → sortedS ys' = true → H l = none → Q (.ref l) (upd H l (.lst (ys'.map V.str)))) := by
 intro pins s σ H xs us Q I r h
 obtain ⟨p, ys, rfl, hl, hn, q⟩ := h
 obtain ⟨u, rfl, ru⟩ := vals1 r
 obtain rfl : u = Value.ref p := ru
 obtain ⟨its, hv, hp, _⟩ := I.list hl
 have hlen : its.length = ys.length := by have := hv.length; rw [List.length_map] at this; exact this.symm
 refine sorted_strs hp.isList (vW hv) (by omega) fun out ss' h1 h2 h3 => ?_
 obtain ⟨e, he⟩ := sortedAll_at s.heap its out
 have hz : (ss'.map V.str).length ≤ sizeLine := by rw [List.length_map, h2.length_eq]; exact Nat.le_trans (Nat.le_of_lt hn) (by decide)
 refine ⟨.ref (s.heap.objs.size + 1), _, I.laid (a := s.heap.objs.size + 1) (o := .lst (ss'.map V.str)) (t' := s.toks) (fun b o z => sortedAll_old z) (Nat.le_succ _) ?_, rfl, q _ ss' h2 h3 (I.hok.fresh (Nat.le_succ _))⟩
 exact ⟨hz, out.toList, e, qP h1, by simpa [seqObj] using he⟩
end
section
variable {X : Cx} {W : St → XK} {k : Nat} {f C : Addr} {fd : FuncData} {ps : List Str} {sp : Sp} {x : Str} {p p2 pos : Pos} {e stp : Expr} {es : List Expr} {te tf : TE} {tk : TO} {t : TA}
end
theorem FT {P : Program} {w : World} {z : Str} {u : Value} (h : (bN P w).is (.inr z) u = true) : ∃ t, u = .str z t := Value.isStrOf_shape (x := z) (v := u) h
theorem rM : ∀ {us : List Value} {ks : List Str}, us.length = ks.length → (∀ (j : Nat) v k, us[j]? = some v → ks[j]? = some k → ∃ t, v = .str k t) → StrsAre us ks
 | [], [], _, _ => .nil
 | u :: us, k :: ks, hl, h => by
  obtain ⟨t, rfl⟩ := h 0 u k rfl rfl
  exact .cons k t (rM (by simpa using hl) fun j v k' e1 e2 => h (j + 1) v k' e1 e2)
 | [], _ :: _, hl, _ => by simp at hl
 | _ :: _, [], hl, _ => by simp at hl
section
variable {prog : Program} {w : World} {A : Around} {E : Value → Shared → Prop} {s : Shared}
theorem xf {d : Addr} {kvs : List (Key × Value)} {ks : List Str} {Q : Value → Shared → Prop} (hh : A.handled = none) (lo : (d == sysModules) = false) (hD : s.heap.DictOf (bN prog w) d kvs) (hk : kvs.map (·.1) = ks.map Sum.inr) (h64 : ks.length < 64)
  (h : ∀ (h1 h' : Heap) (tk : Nat) (out : Array Value) (ss' : List Str) (e : Nat), (∀ b o, s.heap.get? b = some o → h1.get? b = some o) → (∀ b o, h1.get? b = some o → h'.get? b = some o) → h'.get? h1.objs.size = some (seqObj "list" out e) → StrsAre out.toList ss' → ss'.Perm ks → sortedS ss' = true → Q (.ref h1.objs.size) { s with heap := h', toks := tk }) :
  wpAny (model prog w) A (call (.builtin "sorted") [.ref d]) Q E s := by
 obtain ⟨ep, hat⟩ := hD.dictAt
 have hlen : kvs.length = ks.length := by have := congrArg List.length hk; simpa using this
 have hsz : kvs.length ≤ sizeLine := Nat.le_trans (show kvs.length ≤ 64 by omega) (by decide)
 refine Calls.call_function_entry kind_sorted plain_sorted entry_sorted (args_sorted1 _) ?_
 unfold Builtin.«sorted»
 refine wpAny_bind (m := checkCount "sorted" 1 1 _) (wpAny_pure ?_)
 refine wpAny_bind (kdu_collect (A := A.in1) (kdl_dict (knd := bN prog w) (kvs := kvs) (ep := ep) lo) hh hat hsz fun h' tk acc hk' hacc => ?_)
 have hl : acc.toList.length = kvs.length := by rw [Array.length_toList]; exact hacc.1
 have hS : StrsAre acc.toList ks := rM (by omega) fun j v k e1 e2 => by
  obtain ⟨k2, x, e3, e4⟩ := hacc.2 j v (by rw [← Array.getElem?_toList]; exact e1)
  have e5 : (kvs.map (·.1))[j]? = some k2 := by rw [List.getElem?_map, e3]; rfl
  rw [hk, List.getElem?_map, e2] at e5
  cases e5
  exact FT e4
 refine wpAny_bind (wpAny_newList ?_ (by rw [hl]; exact hsz))
 have hoL : (h'.push (seqObj "list" acc.toList.toArray 0)).get? h'.objs.size = some (seqObj "list" acc.toList.toArray 0) := Heap.get?_push_size _ rfl
 refine wpAny_bind (wpAny_holding (wpAny_call_entry slot_list_sort ⟨_, hoL, rfl⟩ entry_list_sort (list_sort_treeK strKind_oneLt hoL hS.keysOf (fun v₁ v₂ rest e => keyKind_strs (by rw [← e]; exact hS)) (by omega) fun st' a1 a2 => ⟨_, rfl, ?_⟩) (args_list_sort _)))
 obtain ⟨ss', b1, b2, b3⟩ := sorted_out_str hS a1 a2
 obtain ⟨e, he⟩ := sortedHeap_at (out := (arrOf st').map (·.2)) hoL
 refine wpAny_pure ⟨_, rfl, h h' _ _ _ ss' e hk' (fun b o hb => ?_) he b1 b2 b3⟩
 have hlt := Heap.lt_size hb
 rw [sortedHeap_old (Nat.ne_of_lt hlt) (by rw [size_push']; exact Nat.lt_succ_of_lt hlt), Heap.get?_push_ne _ _ _ (Nat.ne_of_lt hlt)]
 exact hb
end
section
variable {X : Cx}
theorem Gi : ∀ {kvs : List (Key × V)} {vs : List (Key × Value)}, KV kvs vs → vs.map (·.1) = kvs.map (·.1) := by
 intro kvs vs r
 unfold KV at r
 induction r with
 | nil => rfl
 | cons h t ih => rw [List.map_cons, List.map_cons, ih, h.1]
theorem u0 (hc : X.calm = true) : jE X (.builtin "sorted") (fun xs H Q => ∃ p kvs ks, xs = [.ref p] ∧ H p = some (.dK kvs) ∧ kvs.map (·.1) = ks.map Sum.inr ∧ ks.length < 64 ∧ ∀ l ys', ys'.Perm ks → sortedS ys' = true → H l = none → Q (.ref l) (upd H l (.lst (ys'.map V.str)))) := by
 intro pins s σ H xs us Q I r h
 obtain ⟨p, kvs, ks, rfl, hl, hk, hn, q⟩ := h
 obtain ⟨u, rfl, ru⟩ := vals1 r
 obtain rfl : u = Value.ref p := ru
 obtain ⟨_, lo, vs, rv, hD⟩ := Bv I.hok hl
 refine xf (I.ok.hd hc) lo hD (by rw [Gi rv]; exact hk) hn fun h1 h' tk out ss' e k1 k2 he b1 b2 b3 => ?_
 have I1 : Inv X pins σ H { s with heap := h1, toks := tk } := I.kept (t' := tk) k1
 have hz : (ss'.map V.str).length ≤ sizeLine := by rw [List.length_map, b2.length_eq]; exact Nat.le_trans (Nat.le_of_lt hn) (by decide)
 refine ⟨.ref h1.objs.size, _, I1.laid (a := h1.objs.size) (o := .lst (ss'.map V.str)) (t' := tk) k2 (Nat.le_refl _) ?_, rfl, q _ ss' b2 b3 (I1.hok.fresh (Nat.le_refl _))⟩
 exact ⟨hz, out.toList, e, qP b1, by simpa [seqObj] using he⟩
end
end L2
namespace L2
open PySem PySem.Spec PyProof.Rows
theorem bc {N P : List Str} {s : Scope} (a : s.kind = .function := by rfl) (b : s.isCoroutine = false := by rfl) (c : s.isGenerator = false := by rfl) (d : N.Nodup := by decide +kernel) (e : N.take P.length = P := by rfl) (f : ∀ x ∈ P, s.names.lookup x = some .local ∨ s.names.lookup x = some .cell := by decide +kernel) (g : ∀ y ∈ s.names, y.2 ≠ .free := by decide +kernel) : aH N P s := ⟨a, b, c, d, e, f, g⟩
section
variable {P : Program} {w : World} {K : PySem.W.Frag} {mg : Str → Option Value} {base : Heap}
theorem Fun.oq {x qual : Str} {st : Stmt} {f : Addr} {fd : FuncData} {N ps : List Str} {k : Nat} {sp : Sp} (F : Fun K x qual st f fd) (S : aH N ps (aD st))
 (hbody : ∀ (cdv : Value) (A : Around) (outer : List Env) (s : Shared) (H : Hp) (vs : List V) (Q : VK) (E : XK), aR k (A.deeper (envOfC qual (aD st) s.heap.objs.size f cdv)) → sp vs H Q E → ∃ t, PSs (mV CX0 P w K mg base N qual (aD st) f cdv A outer s H E).nox (bJ st) t ∧ t { nx := fun _ H' => Q .non H', rt := Q } (start N vs) H)
 (len : ∀ vs H Q E, sp vs H Q E → vs.length = ps.length := by intro vs H Q E h; repeat (first | (obtain ⟨rfl, _⟩ := h; rfl) | obtain ⟨_, h⟩ := h)) : aK P w K mg base CX0 (k + 1) f fd ps sp := F.ok S len hbody
theorem Fun.oqX {x qual : Str} {st : Stmt} {f : Addr} {fd : FuncData} {N ps : List Str} {k : Nat} {sp : Sp} (F : Fun K x qual st f fd) (S : aH N ps (aD st))
 (hbody : ∀ (cdv : Value) (A : Around) (outer : List Env) (s : Shared) (H : Hp) (vs : List V) (Q : VK) (E : XK), aR k (A.deeper (envOfC qual (aD st) s.heap.objs.size f cdv)) → sp vs H Q E → ∃ t, PSs (mV (CX1 P w) P w K mg base N qual (aD st) f cdv A outer s H E) (bJ st) t ∧ t { nx := fun _ H' => Q .non H', rt := Q } (start N vs) H)
 (len : ∀ vs H Q E, sp vs H Q E → vs.length = ps.length := by intro vs H Q E h; repeat (first | (obtain ⟨rfl, _⟩ := h; rfl) | obtain ⟨_, h⟩ := h)) : aK P w K mg base (CX1 P w) (k + 1) f fd ps sp := F.okX S len hbody
end
end L2
namespace Mine
open PySem PySem.Spec PyProof.Rows L2
theorem dC (zs : List Str) : (zs.map V.str).all cN = true := by
 rw [List.all_eq_true]; intro v hv; obtain ⟨z, _, rfl⟩ := List.mem_map.mp hv; rfl
theorem lA : (("." : Str)).length ≤ 1 := by decide +kernel
def top (i : Nat) : Stmt := PySem.Challenge.pw_drawhouse_k34_leads_and_ways.main.body.getD i (.Pass ⟨0, 0, 0, 0⟩)
def aC : Stmt → List Stmt
 | .ClassDef _ _ _ b _ _ _ _ _ _ _ => b
 | _ => []
abbrev iw : Stmt := (aC (top 7)).getD 0 (.Pass ⟨0, 0, 0, 0⟩)
abbrev jG : Stmt := top 9
abbrev iR : Stmt := top 10
abbrev jQ : Stmt := top 20
abbrev gP : Stmt := top 24
abbrev qi : Stmt := top 21
abbrev iQ : Stmt := top 22
abbrev lZ : Stmt := top 23
abbrev qg : Stmt := top 25
abbrev fK : Stmt := top 26
abbrev jc : Stmt := top 29
abbrev kJ : Stmt := top 30
abbrev fQ : Stmt := top 31
abbrev fJ : Stmt := (aC (top 12)).getD 0 (.Pass ⟨0, 0, 0, 0⟩)
abbrev fL : Stmt := (aC (top 12)).getD 1 (.Pass ⟨0, 0, 0, 0⟩)
abbrev du : Stmt := (aC (top 13)).getD 0 (.Pass ⟨0, 0, 0, 0⟩)
abbrev fX : Stmt := (aC (top 13)).getD 1 (.Pass ⟨0, 0, 0, 0⟩)
abbrev cU : Stmt := (aC (top 14)).getD 0 (.Pass ⟨0, 0, 0, 0⟩)
abbrev dO : Stmt := (aC (top 14)).getD 1 (.Pass ⟨0, 0, 0, 0⟩)
abbrev cQ : Stmt := (aC (top 15)).getD 0 (.Pass ⟨0, 0, 0, 0⟩)
abbrev eY : Stmt := (aC (top 15)).getD 1 (.Pass ⟨0, 0, 0, 0⟩)
abbrev eQ : Stmt := (aC (top 15)).getD 2 (.Pass ⟨0, 0, 0, 0⟩)
abbrev cM : Stmt := (aC (top 16)).getD 0 (.Pass ⟨0, 0, 0, 0⟩)
abbrev d7 : Stmt := (aC (top 16)).getD 1 (.Pass ⟨0, 0, 0, 0⟩)
abbrev dU : Stmt := (aC (top 16)).getD 2 (.Pass ⟨0, 0, 0, 0⟩)
abbrev cP : Stmt := (aC (top 17)).getD 0 (.Pass ⟨0, 0, 0, 0⟩)
abbrev eV : Stmt := (aC (top 17)).getD 1 (.Pass ⟨0, 0, 0, 0⟩)
abbrev eO : Stmt := (aC (top 17)).getD 2 (.Pass ⟨0, 0, 0, 0⟩)
abbrev cR : Stmt := (aC (top 18)).getD 0 (.Pass ⟨0, 0, 0, 0⟩)
abbrev cC : Stmt := (aC (top 32)).getD 0 (.Pass ⟨0, 0, 0, 0⟩)
abbrev bY : Stmt := (aC (top 32)).getD 1 (.Pass ⟨0, 0, 0, 0⟩)
abbrev fV : Stmt := (aC (top 32)).getD 2 (.Pass ⟨0, 0, 0, 0⟩)
abbrev dY : Stmt := (aC (top 32)).getD 3 (.Pass ⟨0, 0, 0, 0⟩)
abbrev cT : Stmt := (aC (top 34)).getD 0 (.Pass ⟨0, 0, 0, 0⟩)
abbrev eG : Stmt := (aC (top 34)).getD 1 (.Pass ⟨0, 0, 0, 0⟩)
abbrev jX : Stmt := top 36
abbrev jZ : Stmt := top 37
abbrev iK : Stmt := top 38
abbrev dH : Stmt := top 39
abbrev iU : Stmt := top 41
abbrev iH : Stmt := top 42
abbrev lu : Stmt := top 43
abbrev lX : Stmt := top 44
abbrev iY : Stmt := top 45
abbrev jY : Stmt := top 46
abbrev dW : Stmt := top 40
abbrev jb : Stmt := top 47
abbrev gJ : Stmt := top 48
abbrev gK : Stmt := top 49
abbrev jR : Stmt := top 50
abbrev kE : Stmt := top 51
abbrev iM : Stmt := top 52
abbrev BX : Stmt := top 53
def pJ (ns : List Int) (k : Int) : Int := if k < (ns.length : Int) then Builtin.bitAnd (ns.getD k.toNat 0) (1 * 2 ^ (4400 : Int).toNat - 1) else 0
def qy (K : PySem.W.Frag) : Sp := fun vs H Q _ => ∃ (a : Addr) (ns : List Int) (k : Int), vs = [.ref a, .int k] ∧ SqL K H a (ns.map V.int) ∧ 0 ≤ k ∧ Pur (.int (pJ ns k)) H Q
section
variable {P : Program} {w : World} {K : PySem.W.Frag} {mg : Str → Option Value} {base : Heap}
abbrev pC : List Str := ["_law_script", "_law_k"]
theorem Iu : aH ["_law_script", "_law_k"] pC (aD jX) := bc
theorem uV {f : Addr} {fd : FuncData} (F : Fun K "_law_cell" "_law_cell" jX f fd) (hlen : mg "len" = none) : aK P w K mg base CX0 1 f fd pC (qy K) := by
 refine F.oq Iu fun _ _ _ _ H _ Q E hr h => ?_
 ·obtain ⟨a, ns, k, rfl, hS, h0, q⟩ := h
  refine ⟨_, gb (Be (aM qX (pv 1) (aY aZ (by rfl) hlen PySem.boot_len (ak (pv 0) aq)) (aW _))
    (oH (rn (aU Cp (bC aX (pv 0) (pv 1) (fun _ _ => rfl)) (aU yw (aU Hf aA aA) aA)))) uC)
   (oH (rn aA)), ?_⟩
  refine ⟨_, rfl, _, rfl, a, _, rfl, .inl hS, _, _, rfl, rfl, _, rfl, ?_⟩
  rw [List.length_map]
  refine gh (fun hk => ?_) (fun hk => ?_)
  ·have hk2 : ns[k.toNat]? = some (ns.getD k.toNat 0) := by
    rw [List.getD_eq_getElem?_getD, List.getElem?_eq_getElem (by omega)]
    rfl
   have hk3 : (ns.map V.int)[k.toNat]? = some (V.int (ns.getD k.toNat 0)) := by rw [List.getElem?_map, hk2]; rfl
   have hat : atI (ns.map V.int) k = some (V.int (ns.getD k.toNat 0)) := by
    have := bu hk3
    rwa [show ((k.toNat : Nat) : Int) = k from by omega] at this
   refine ⟨_, rfl, _, rfl, a, _, _, _, rfl, rfl, hS, hat, _, _, rfl, rfl, ⟨by decide, by decide, by decide⟩, _, _, rfl, rfl, _, _, rfl, rfl, ?_⟩
   have e : pJ ns k = Builtin.bitAnd (ns.getD k.toNat 0) (1 * 2 ^ (4400 : Int).toNat - 1) := if_pos hk
   have q' := q H (az.refl H)
   rw [e] at q'
   exact q'
  ·have e : pJ ns k = 0 := if_neg hk
   have q' := q H (az.refl H)
   rw [e] at q'
   exact q'
abbrev jt : List Str := ["_law_cell_here", "_law_k", "_law_many"]
theorem oY : aH ["_law_cell_here", "_law_k", "_law_many", "_law_great", "_law_by", "_law_one"] jt (aD jZ) := bc
theorem km {f : Addr} {fd : FuncData} (F : Fun K "_law_pick" "_law_pick" jZ f fd) : aK P w K mg base CX0 1 f fd jt lK := by
 refine F.oq oY fun _ _ _ _ H _ Q E hr h => ?_
 ·obtain ⟨c, k, m, rfl, h0, h1, hm, q⟩ := h
  refine ⟨_, gb (Be (rD (aM dG (aU jg (pv 0) aA) aA (aW _)) (qD (aM yZ (aU Cm (pv 0) aA) aA (aW _)))).pt
    (oH (rn (aU jg (aU Cp (aU Cm (pv 0) (aU cY aA (aU nC aA (pv 1)))) aA) (pv 2)))) uC)
   (gb (nq (i := 3) oY.nd rfl (Or.inl rfl) aA)
   (gb (nq (i := 4) oY.nd rfl (Or.inl rfl) (bC aX (bH (ak aA (ak aA (ak aA (ak aA (ak aA (ak aA (ak aA (ak aA aq))))))))) (aU jg (pv 1) aA) (fun _ _ => rfl)))
   (gb (nq (i := 4) oY.nd rfl (Or.inl rfl) (aU nC (pv 4) (bC aX (bH (ak aA (ak aA (ak aA (ak aA (ak aA aq)))))) (aU qJ (pv 1) aA) (fun _ _ => rfl))))
   (gb (nq (i := 5) oY.nd rfl (Or.inl rfl) (aU jg (aU nC (aU cY (aU jg (aU qJ (pv 0) aA) (pv 3)) aA) (pv 4)) (pv 3)))
   (gb (nq (i := 5) oY.nd rfl (Or.inl rfl) (aU jg (aU nC (pv 5) (pv 5)) aA))
   (oH (rn (aU jg (aU qJ (aU jg (aU nC (aU cY (aU cY (pv 5) (pv 1)) aA) (aU cY (aU qJ (pv 5) aA) aA)) aA) aA) (pv 2))))))))), ?_⟩
  obtain ⟨t1, t2, t3⟩ := Fi (k := k % 8) (by omega) (by omega)
  obtain ⟨u1, u2, u3⟩ := Ft (k := k / 8) (by omega) (by omega)
  have a8 : atI (nR.map V.int) (k % 8) = some (V.int (nR.getD (k % 8).toNat 0)) := by
   have := bu (xs := nR.map V.int) (j := (k % 8).toNat) (by rw [List.getElem?_map, t1]; rfl)
   rwa [show (((k % 8).toNat : Nat) : Int) = k % 8 from by omega] at this
  have a5 : atI (oR.map V.int) (k / 8) = some (V.int (oR.getD (k / 8).toNat 0)) := by
   have := bu (xs := oR.map V.int) (j := (k / 8).toNat) (by rw [List.getElem?_map, u1]; rfl)
   rwa [show (((k / 8).toNat : Nat) : Int) = k / 8 from by omega] at this
  have g1 := Ej c k
  have g2 := Fp c k
  have g3 := Gd c k
  have g4 := Fq c k
  have ms := Ab t2 t3 u2 u3
  refine ⟨_, rfl, _, _, rfl, rfl, (by show (0 : Int) < 2; decide), rfl, _, rfl, ?_⟩
  refine Kv (fun hA => ?_) (fun hA => ?_)
  ·refine ⟨_, rfl, _, _, rfl, rfl, (by show (0 : Int) ≤ 400; decide), _, _, rfl, rfl, _, rfl, ?_⟩
   refine gh (fun hB => ?_) (fun hB => ?_)
   ·have e : pick c k m = Gp c k m := if_pos ⟨hA, hB⟩
    have q' := q H (az.refl H)
    rw [e] at q'
    exact ⟨_, rfl, _, rfl, _, _, rfl, rfl, .inl ⟨by decide, by decide⟩, _, _, rfl, rfl, _, _, rfl, rfl, (by show (0 : Int) ≤ 1 + 10 * k; omega), _, _, rfl, rfl, _, rfl, _, _, rfl, rfl, hm, q'⟩
   ·have e : pick c k m = Cw c k m := if_neg fun z => hB z.2
    refine ⟨by show 8 ≤ sizeLine; decide, fun p hp => ?_⟩
    refine ⟨_, rfl, _, _, rfl, rfl, (by show (0 : Int) < 8; decide), p, nR.map V.int, _, _, rfl, rfl, SqL.of ao, a8, ?_⟩
    refine ⟨_, rfl, (by show 5 ≤ sizeLine; decide), fun p2 hp2 => ?_⟩
    refine ⟨_, rfl, _, _, rfl, rfl, ⟨by decide, by decide⟩, p2, oR.map V.int, _, _, rfl, rfl, SqL.of ao, a5, _, _, rfl, rfl, .inl ⟨by omega, by omega⟩, ?_⟩
    refine ⟨_, rfl, _, _, rfl, rfl, ⟨by decide, by decide⟩, _, rfl, _, _, rfl, rfl, (by show (0 : Int) < 2305843009213693951; decide), _, _, rfl, rfl, _, rfl, _, _, rfl, rfl, .inr ⟨by omega, by omega⟩, _, rfl, _, _, rfl, rfl, (by show (0 : Int) < 2305843009213693951; decide), ?_⟩
    refine ⟨_, rfl, _, rfl, _, _, rfl, rfl, .inl ⟨(by show -(2 ^ 64) < wD c k; omega), (by show wD c k < 2 ^ 64; omega)⟩, _, _, rfl, rfl, (by show (0 : Int) < 1000000000039; decide), ?_⟩
    refine ⟨_, rfl, _, rfl, _, _, rfl, rfl, _, _, rfl, rfl, _, rfl, _, _, rfl, rfl, ⟨by decide, by decide⟩, _, _, rfl, rfl, _, _, rfl, rfl, .inl ⟨(by show -(2 ^ 64) < vU c k + k + 1; omega), (by show vU c k + k + 1 < 2 ^ 64; omega)⟩, _, _, rfl, rfl, (by show (0 : Int) < 67280421310721; decide), _, _, rfl, rfl, ⟨by decide, by decide⟩, _, rfl, _, _, rfl, rfl, hm, ?_⟩
    rw [e] at q
    exact q _ ((az.new hp).put hp2)
  ·refine jy ?_
   have e : pick c k m = Cw c k m := if_neg fun z => hA z.1
   refine ⟨by show 8 ≤ sizeLine; decide, fun p hp => ?_⟩
   refine ⟨_, rfl, _, _, rfl, rfl, (by show (0 : Int) < 8; decide), p, nR.map V.int, _, _, rfl, rfl, SqL.of ao, a8, ?_⟩
   refine ⟨_, rfl, (by show 5 ≤ sizeLine; decide), fun p2 hp2 => ?_⟩
   refine ⟨_, rfl, _, _, rfl, rfl, ⟨by decide, by decide⟩, p2, oR.map V.int, _, _, rfl, rfl, SqL.of ao, a5, _, _, rfl, rfl, .inl ⟨by omega, by omega⟩, ?_⟩
   refine ⟨_, rfl, _, _, rfl, rfl, ⟨by decide, by decide⟩, _, rfl, _, _, rfl, rfl, (by show (0 : Int) < 2305843009213693951; decide), _, _, rfl, rfl, _, rfl, _, _, rfl, rfl, .inr ⟨by omega, by omega⟩, _, rfl, _, _, rfl, rfl, (by show (0 : Int) < 2305843009213693951; decide), ?_⟩
   refine ⟨_, rfl, _, rfl, _, _, rfl, rfl, .inl ⟨(by show -(2 ^ 64) < wD c k; omega), (by show wD c k < 2 ^ 64; omega)⟩, _, _, rfl, rfl, (by show (0 : Int) < 1000000000039; decide), ?_⟩
   refine ⟨_, rfl, _, rfl, _, _, rfl, rfl, _, _, rfl, rfl, _, rfl, _, _, rfl, rfl, ⟨by decide, by decide⟩, _, _, rfl, rfl, _, _, rfl, rfl, .inl ⟨(by show -(2 ^ 64) < vU c k + k + 1; omega), (by show vU c k + k + 1 < 2 ^ 64; omega)⟩, _, _, rfl, rfl, (by show (0 : Int) < 67280421310721; decide), _, _, rfl, rfl, ⟨by decide, by decide⟩, _, rfl, _, _, rfl, rfl, hm, ?_⟩
   rw [e] at q
   exact q _ ((az.new hp).put hp2)
end
abbrev fc : List Str := ["self", "address"]
theorem ym : aH ["self", "address"] fc (aD iw) := bc
abbrev iZ : List Str := ["address"]
theorem pN : aH ["address", "names"] iZ (aD jG) := bc
abbrev f9 : List Str := ["address"]
theorem w6 : aH ["address"] f9 (aD iR) := bc
abbrev jJ : List Str := ["row"]
theorem nA : aH ["row", "named", "address"] jJ (aD jQ) := bc
abbrev dZ : List Str := ["house", "address"]
theorem uB : aH ["house", "address"] dZ (aD gP) := bc
abbrev n8 : List Str := ["house", "address"]
theorem nY : aH ["house", "address", "part", "named", "row"] n8 (aD qi) := bc
abbrev gf : List Str := ["house"]
theorem lM : aH ["house", "linked", "address"] gf (aD iQ) := bc
abbrev jN : List Str := ["linked", "address"]
theorem kh : aH ["linked", "address", "ahead", "found", "one"] jN (aD lZ) := bc
abbrev nM : List Str := ["house", "address"]
theorem Bj : aH ["house", "address"] nM (aD qg) := bc
abbrev dF : List Str := ["house", "one", "other"]
theorem cI : aH ["house", "one", "other", "linked", "ways", "seen", "way", "address"] dF (aD fK) := bc
abbrev iV : List Str := ["part", "addresses"]
theorem pL : aH ["part", "addresses", "parent"] iV (aD jc) := bc
abbrev jM : List Str := ["part", "addresses"]
theorem yl : aH ["part", "addresses"] jM (aD kJ) := bc
abbrev fU : List Str := ["parts"]
theorem fY : aH ["parts", "addresses", "at", "part"] fU (aD fQ) := bc
abbrev kj : List Str := ["self"]
theorem vh : aH ["self"] kj (aD fJ) := bc
abbrev jT : List Str := ["self"]
theorem vz : aH ["self"] jT (aD fL) := bc
abbrev iW : List Str := ["self", "name", "terms"]
theorem wg : aH ["self", "name", "terms"] iW (aD du) := bc
abbrev kO : List Str := ["self"]
theorem vA : aH ["self"] kO (aD fX) := bc
abbrev gM : List Str := ["self", "name", "terms"]
theorem vO : aH ["self", "name", "terms"] gM (aD cU) := bc
abbrev jq : List Str := ["self"]
theorem tD : aH ["self"] jq (aD dO) := bc
abbrev gC : List Str := ["self", "address", "name"]
theorem uX : aH ["self", "address", "name"] gC (aD cQ) := bc
abbrev jk : List Str := ["self"]
theorem sU : aH ["self"] jk (aD eY) := bc
abbrev jj : List Str := ["self"]
theorem tK : aH ["self"] jj (aD eQ) := bc
abbrev gG : List Str := ["self", "address", "name"]
theorem uT : aH ["self", "address", "name"] gG (aD cM) := bc
abbrev jm : List Str := ["self"]
theorem sV : aH ["self"] jm (aD d7) := bc
abbrev ji : List Str := ["self"]
theorem sZ : aH ["self"] ji (aD dU) := bc
abbrev gR : List Str := ["self", "word", "address", "name"]
theorem uF : aH ["self", "word", "address", "name"] gR (aD cP) := bc
abbrev jh : List Str := ["self"]
theorem sX : aH ["self"] jh (aD eV) := bc
abbrev jn : List Str := ["self"]
theorem tM : aH ["self"] jn (aD eO) := bc
abbrev gQ : List Str := ["self", "terms"]
theorem vo : aH ["self", "terms"] gQ (aD cR) := bc
abbrev fM : List Str := ["self", "parts"]
theorem sY : aH ["self", "parts"] fM (aD cC) := bc
abbrev bM : List Str := ["self"]
theorem mY : aH ["self"] bM (aD bY) := bc
abbrev gF : List Str := ["self", "address"]
theorem vM : aH ["self", "address"] gF (aD fV) := bc
abbrev fW : List Str := ["self", "address"]
theorem mJ : aH ["self", "address", "part"] fW (aD dY) := bc
abbrev gH : List Str := ["self", "address", "rows"]
theorem uW : aH ["self", "address", "rows"] gH (aD cT) := bc
abbrev fO : List Str := ["self"]
theorem mD : aH ["self", "names"] fO (aD eG) := bc
abbrev qH : List Str := ["_law_cell_here"]
theorem iJ : aH ["_law_cell_here", "_law_letters", "_law_base", "_law_size", "_law_at", "_law_first", "_law_head", "_law_tail"] qH (aD iK) := bc
abbrev jd : List Str := ["_law_cell_here", "_law_many", "_law_words_here"]
theorem dj : aH ["_law_cell_here", "_law_many", "_law_words_here", "_law_found", "_law_k", "_law_above", "_law_parent", "_law_address"] jd (aD dH) := bc
abbrev qz : List Str := ["_law_cell_here", "_law_addresses_here", "_law_words_here"]
theorem uQ : aH ["_law_cell_here", "_law_addresses_here", "_law_words_here", "_law_address", "_law_word"] qz (aD iU) := bc
abbrev qu : List Str := ["_law_cell_here", "_law_known", "_law_addresses_here", "_law_words_here"]
theorem jO : aH ["_law_cell_here", "_law_known", "_law_addresses_here", "_law_words_here", "_law_sort", "_law_free", "_law_name", "_law_beneath", "_law_one"] qu (aD iH) := bc
abbrev vG : List Str := ["_law_script", "_law_addresses_here", "_law_words_here"]
theorem lR : aH ["_law_script", "_law_addresses_here", "_law_words_here", "_law_rows_here", "_law_address", "_law_k", "_law_cell_here", "_law_owner", "_law_known"] vG (aD lu) := bc
abbrev zJ : List Str := ["_law_row_here"]
theorem sJ : aH ["_law_row_here", "_law_sort", "_law_name", "_law_address", "_law_word", "_law_terms"] zJ (aD lX) := bc
abbrev qj : List Str := ["_law_addresses_here", "_law_rows_here"]
theorem FW : aH ["_law_addresses_here", "_law_rows_here"] qj (aD iY) := bc
abbrev u5 : List Str := ["_law_script"]
theorem sr : aH ["_law_script", "_law_words_here", "_law_many", "_law_addresses_here"] u5 (aD jY) := bc
abbrev kI : List Str := ["_law_address"]
theorem qM : aH ["_law_address", "_law_names"] kI (aD dW) := bc
abbrev nU : List Str := ["_law_address", "_law_addresses_here", "_law_rows_here"]
theorem lg : aH ["_law_address", "_law_addresses_here", "_law_rows_here", "_law_named", "_law_sort", "_law_name", "_law_asked_here", "_law_word"] nU (aD jb) := bc
abbrev ou : List Str := ["_law_addresses_here", "_law_rows_here"]
theorem dX : aH ["_law_addresses_here", "_law_rows_here", "_law_behind_here", "_law_near", "_law_address", "_law_found", "_law_at"] ou (aD gJ) := bc
abbrev oO : List Str := ["_law_found", "_law_one", "_law_other", "_law_addresses_here", "_law_rows_here"]
theorem xg : aH ["_law_found", "_law_one", "_law_other", "_law_addresses_here", "_law_rows_here", "_law_k"] oO (aD gK) := bc
abbrev uU : List Str := ["_law_house", "_law_one", "_law_other", "_law_due"]
theorem Dp : aH ["_law_house", "_law_one", "_law_other", "_law_due", "e"] uU (aD jR) := bc
abbrev uH : List Str := ["_law_script", "_law_words_here"]
theorem pB : aH ["_law_script", "_law_words_here", "_law_head", "_law_addresses_here", "_law_step", "_law_rows_here", "_law_k"] uH (aD kE) := bc
abbrev qG : List Str := ["_law_house", "_law_addresses_here", "_law_rows_here"]
theorem jV : aH ["_law_house", "_law_addresses_here", "_law_rows_here", "_law_behind_here", "_law_one", "_law_found", "_law_other", "_law_told"] qG (aD iM) := bc
abbrev Gm : List Str := ["_law_script"]
theorem oM : aH ["_law_script", "_law_words_here", "_law_addresses_here", "_law_rows_here", "_law_house", "_law_strange", "_law_word"] Gm (aD BX) := bc
section
variable {P : Program} {w : World} {K : PySem.W.Frag} {mg : Str → Option Value} {base : Heap}
def zK (K : PySem.W.Frag) : Sp := fun vs H Q _ => ∃ (a : Addr) (ns : List Int), vs = [.ref a] ∧ SqL K H a (ns.map V.int) ∧ ns.length ≤ 63 ∧ ∀ H', Q (.bl true) H'
theorem bZ : 1000 ≤ sizeLine := by decide
def vg (C : Nat → Addr) (i : Nat) : Sp := fun vs H Q _ => ∃ (x dx : Addr) (r : bW) (d : Addr), vs = [.ref x, .str r.nm, .ref d] ∧ r.so = i ∧ H x = some (.ins (C i) dx []) ∧ iz H d r.ts ∧ r.ts.length ≤ 10 ∧
 ∀ l H', H l = none → SameBut x H H' → cA C H' x l r → Q .non H'
def vN (C : Nat → Addr) (i : Nat) : Sp := fun vs H Q _ => ∃ (x dx : Addr) (r : bW), vs = [.ref x, .str r.ad, .str r.nm] ∧ r.so = i ∧ H x = some (.ins (C i) dx []) ∧ ∀ H', SameBut x H H' → (∀ l, cA C H' x l r) → Q .non H'
def BZ (C : Nat → Addr) : Sp := fun vs H Q _ => ∃ (x dx : Addr) (r : bW), vs = [.ref x, .str r.wd, .str r.ad, .str r.nm] ∧ r.so = 4 ∧ H x = some (.ins (C 4) dx []) ∧ ∀ H', SameBut x H H' → (∀ l, cA C H' x l r) → Q .non H'
def BW (C : Nat → Addr) : Sp := fun vs H Q _ => ∃ (x dx : Addr) (r : bW) (d : Addr), vs = [.ref x, .ref d] ∧ r.so = 5 ∧ H x = some (.ins (C 5) dx []) ∧ iz H d r.ts ∧ r.ts.length ≤ 10 ∧
 ∀ l H', H l = none → SameBut x H H' → cA C H' x l r → Q .non H'
def Bp : Sp := fun vs H Q _ => ∃ v : V, vs = [v] ∧ Pur (.str "") H Q
def uY : Sp := fun vs H Q _ => ∃ v : V, vs = [v] ∧ ∀ b H', H b = none → az H H' → H' b = some (.lst []) → Q (.ref b) H'
def spB (C : Nat → Addr) (i : Nat) : Sp := fun vs H Q _ => ∃ (a l : Addr) (r : bW), vs = [.ref a] ∧ r.so = i ∧ cA C H a l r ∧ Pur (.str r.nm) H Q
def spA (C : Nat → Addr) (i : Nat) : Sp := fun vs H Q _ => ∃ (a l : Addr) (r : bW), vs = [.ref a] ∧ r.so = i ∧ cA C H a l r ∧ ∀ b H', H b = none → az H H' → H' b = some (.lst [.str r.ad]) → Q (.ref b) H'
structure Ju (K : PySem.W.Frag) (C : Nat → Addr) : Prop where
 c : ∀ i, i ≤ 6 → RCl K (C i)
 kit : ∀ i j, i ≤ 6 → j ≤ 6 → PySem.W.kitOne K (.ref (C i)) (.ref (C j)) = some (pQ i j)
 nn : ∀ i, i ≤ 6 → cz K (C i) "name"
 nt : ∀ i, i ≤ 6 → cz K (C i) "terms"
 na : ∀ i, i ≤ 6 → cz K (C i) "address"
 nw : ∀ i, i ≤ 6 → cz K (C i) "word"
theorem qI {z : Str} (h : (decide (1 ≤ z.length) && decide (z.length ≤ 8) && z.cps.toList.all fun n => decide (97 ≤ n) && decide (n ≤ 122)) = true) : cX z := by
 simp only [Bool.and_eq_true, decide_eq_true_eq, List.all_eq_true] at h
 exact ⟨h.1.1, h.1.2, fun n hn => h.2 n hn⟩
theorem Ir {xs : List V} {ys : List Str} (hl : ys.length = xs.length) (h : ∀ (i : Nat) v, xs[i]? = some v → ∃ z, ys[i]? = some z ∧ v = .str z) : xs = ys.map V.str := by
 apply List.ext_getElem?
 intro i
 rw [List.getElem?_map]
 cases e : xs[i]? with
 | none =>
  have e2 : ys[i]? = none := by
   rw [List.getElem?_eq_none_iff] at e ⊢
   omega
  rw [e2]; rfl
 | some v =>
  obtain ⟨z, ez, rfl⟩ := h i v e
  rw [ez]; rfl
theorem BL {xs : List V} (h : ∀ (i : Nat) v, xs[i]? = some v → ∃ z, v = V.str z ∧ cX z) : ∃ ys : List Str, ys.length = xs.length ∧ xs = ys.map V.str ∧ ∀ y ∈ ys, cX y := by
 obtain ⟨ys, hyl, hys⟩ := fZ (fun _ v z => v = V.str z ∧ cX z) xs 0 (fun i v e => h i v e)
 refine ⟨ys, hyl, Ir hyl fun i v e => ?_, fun y hy => ?_⟩
 ·obtain ⟨z, ez, rz, _⟩ := hys i v e
  exact ⟨z, ez, rz⟩
 ·obtain ⟨i, hi, e⟩ := List.getElem_of_mem hy
  have hx : xs[i]? = some (xs[i]'(by omega)) := List.getElem?_eq_getElem (by omega)
  obtain ⟨z, ez, _, nz⟩ := hys i _ hx
  rw [List.getElem?_eq_getElem hi, e] at ez
  cases ez
  exact nz
theorem sF (i j : Nat) (h : pQ i j = false := by rfl) (hi : i ≤ 5 := by decide) (hj : j ≤ 5 := by decide) : decide (V.str (eE i) = V.str (eE j)) = false := (Ea hi hj).trans h
theorem sT (i : Nat) : decide (V.str (eE i) = V.str (eE i)) = true := decide_eq_true rfl
theorem six {n : Nat} (h : n ≤ 5) : n = 0 ∨ n = 1 ∨ n = 2 ∨ n = 3 ∨ n = 4 ∨ n = 5 := by
 cases n with
 | zero => exact .inl rfl
 | succ n => cases n with
  | zero => exact .inr (.inl rfl)
  | succ n => cases n with
   | zero => exact .inr (.inr (.inl rfl))
   | succ n => cases n with
    | zero => exact .inr (.inr (.inr (.inl rfl)))
    | succ n => cases n with
     | zero => exact .inr (.inr (.inr (.inr (.inl rfl))))
     | succ n => cases n with
      | zero => exact .inr (.inr (.inr (.inr (.inr rfl))))
      | succ n => exact absurd h (by omega)
def dal : List V := [V.str "draw", V.str "late", V.str "take"]
theorem bF {H : Hp} {C x dx : Addr} (hx : H x = none) (hdx : H dx = none) : az H (upd (upd H dx (.own x)) x (.ins C dx [])) := fun b o e => by
 rw [aG (aF e hx), aG (aF e hdx)]
 exact e
structure SN (K : PySem.W.Frag) (C : Addr) : Prop where
 cl : RCl K C
 na : cz K C "address"
 nr : cz K C "rows"
 kit : PySem.W.kitOne K (.ref C) (.ref C) = some true
structure mR (rs : List bW) : Prop where
 hi : rs.length ≤ 12
 ok : ∀ r ∈ rs, GoodR r
theorem mR.at {rs : List bW} (g : mR rs) {i : Nat} {r : bW} (h : rs[i]? = some r) : GoodR r := g.ok r (List.mem_of_getElem? h)
def pA (C : Nat → Addr) (H : Hp) (l : Addr) (rs : List bW) : Prop := ∃ xs : List V, H l = some (.lst xs) ∧ xs.length = rs.length ∧ ∀ (i : Nat) r, rs[i]? = some r → ∃ a t, xs[i]? = some (.ref a) ∧ cA C H a t r
theorem pA.same {C : Nat → Addr} {H H' : Hp} {l : Addr} {rs : List bW} (h : pA C H l rs) (s : az H H') : pA C H' l rs := by
 obtain ⟨xs, hl, hn, hx⟩ := h
 refine ⟨xs, s _ _ hl, hn, fun i r e => ?_⟩
 obtain ⟨a, t, e2, ra⟩ := hx i r e
 exact ⟨a, t, e2, ra.same s⟩
def fH (C : Nat → Addr) (H : Hp) (p : Addr) (ad : Str) (l : Addr) (rs : List bW) : Prop := ∃ dx fs, H p = some (.ins (C 7) dx fs) ∧ fs.lookup ("address" : Str) = some (.str ad) ∧ fs.lookup ("rows" : Str) = some (.ref l) ∧
 fs.lookup ("bound" : Str) = none ∧ fs.lookup ("place_of" : Str) = none ∧ fs.lookup ("text" : Str) = none ∧ pA C H l rs
theorem fH.same {C : Nat → Addr} {H H' : Hp} {p : Addr} {ad : Str} {l : Addr} {rs : List bW} (h : fH C H p ad l rs) (s : az H H') : fH C H' p ad l rs := by
 obtain ⟨dx, fs, e, a1, a2, a3, a4, a5, r⟩ := h
 exact ⟨dx, fs, s _ _ e, a1, a2, a3, a4, a5, r.same s⟩
theorem iz.but {H H' : Hp} {l x C dx : Addr} {ts : List Trm} {fs : List (Str × V)} (h : iz H l ts) (hx : H x = some (.ins C dx fs)) (s : SameBut x H H') : iz H' l ts := by
 obtain ⟨xs, hl, hn, ht⟩ := h
 refine ⟨xs, s _ _ hl (eX hl hx (by intro z; cases z)), hn, fun i v e => ?_⟩
 obtain ⟨t, et, tm⟩ := ht i v e
 exact ⟨t, et, tm.but hx s⟩
theorem cA.but {C : Nat → Addr} {H H' : Hp} {a t x D dx : Addr} {r : bW} (h : cA C H a t r) (g : GoodR r) (hx : H x = some (.ins D dx [])) (s : SameBut x H H') : cA C H' a t r := by
 obtain ⟨dy, fs, e, f⟩ := h
 have ne : a ≠ x := fun z => by
  rw [z, hx] at e
  cases e
  rcases Nat.lt_or_ge r.so 5 with k | k
  ·exact absurd (f.nm k) (by intro z; cases z)
  ·exact absurd (f.tm (.inr (.inr (Nat.le_antisymm g.so k)))).1 (by intro z; cases z)
 exact ⟨dy, fs, s _ _ e ne, f.nm, fun k => ⟨(f.tm k).1, (f.tm k).2.but hx s⟩, f.ad, f.wd, f.nb, f.na, f.ns⟩
def isE (v : V) : Bool := !decide (v = .str "")
def pF (rs : List bW) : List V := (rs.map fun r => V.str r.nm).filter isE
def CW (C : Nat → Addr) : Sp := fun vs H Q _ => ∃ (x dx : Addr) (ad : Str) (d : Addr) (rs : List bW), vs = [.ref x, .str ad, .ref d] ∧ H x = some (.ins (C 7) dx []) ∧ pA C H d rs ∧ mR rs ∧
 ∀ l H', H l = none → SameBut x H H' → fH C H' x ad l rs → Q .non H'
def zM (C : Nat → Addr) : Sp := fun vs H Q _ => ∃ (p : Addr) (ad : Str) (l : Addr) (rs : List bW), vs = [.ref p] ∧ fH C H p ad l rs ∧ mR rs ∧ ∀ b H', H b = none → az H H' → H' b = some (.lst (pF rs)) → Q (.ref b) H'
theorem yo {rs : List bW} {v : V} (h : v ∈ pF rs) : ∃ r ∈ rs, v = .str r.nm ∧ r.nm ≠ "" := by
 obtain ⟨h1, h2⟩ := List.mem_filter.mp h
 obtain ⟨r, hr, rfl⟩ := List.mem_map.mp h1
 refine ⟨r, hr, rfl, fun e => ?_⟩
 rw [e] at h2
 exact absurd h2 (by decide +kernel)
theorem yh {x : Str} {xs : List V} (h : ∀ v ∈ xs, ∃ z, v = .str z ∧ z ≠ x) : inV (.str x) xs = false := by
 unfold inV
 rw [List.any_eq_false]
 intro v hv k
 obtain ⟨z, rfl, hz⟩ := h v hv
 exact hz (by simpa [eqV] using k)
theorem Dg {K : PySem.W.Frag} {H : Hp} {n : Nat} {v : V} (h : cN v = true ∨ ∃ p, v = .ref p) : DEq K H n v v := by
 rcases h with h | ⟨p, rfl⟩
 ·cases v with
  | non => exact .non
  | bl b => exact .bl b
  | int i => exact .int i
  | str x => exact .str x
  | _ => cases h
 ·exact .same p
theorem wj {K : PySem.W.Frag} {H : Hp} {a b : Addr} {xs : List V} (ha : H a = some (.lst xs)) (hb : H b = some (.lst xs)) (h : ∀ v ∈ xs, cN v = true ∨ ∃ p, v = .ref p) : DSq K H a b :=
 ⟨0, xs, xs, by decide, rfl, .inr ⟨SqL.of ha, SqL.of hb⟩, fun i x y ex ey => by rw [ex] at ey; cases ey; exact Dg (h x (List.mem_of_getElem? ex))⟩
theorem cA.off {C : Nat → Addr} {H : Hp} {a t d : Addr} {r : bW} {hs : List V} (h : cA C H a t r) (g : GoodR r) (hd : H d = some (.lst hs)) (hh : ∀ v ∈ hs, ∃ b D dx fs, v = V.ref b ∧ H b = some (.ins D dx fs)) : ∃ t', cA C H a t' r ∧ t' ≠ d := by
 by_cases k : t = d
 ·obtain ⟨dy, fs, e, f⟩ := h
  have no : ¬ (r.so = 0 ∨ r.so = 1 ∨ r.so = 5) := fun z => by
   obtain ⟨_, xs, hl, hn, hx⟩ := f.tm z
   rw [k, hd] at hl
   cases hl
   have h0 : 0 < hs.length := by rw [hn]; exact List.length_pos_iff.mpr g.ts.lo
   obtain ⟨b, D, dx, fs2, e3, e4⟩ := hh hs[0] (List.getElem_mem h0)
   obtain ⟨tt, _, pp, y, e5, e6, _⟩ := hx 0 _ (List.getElem?_eq_getElem h0)
   rw [e3] at e5
   cases e5
   rw [e4] at e6
   cases e6
  exact ⟨a, ⟨dy, fs, e, f.nm, fun z => absurd z no, f.ad, f.wd, f.nb, f.na, f.ns⟩, eX e hd (by intro z; cases z)⟩
 ·exact ⟨t, h, k⟩
structure TQ (K : PySem.W.Frag) (C : Addr) : Prop where
 cl : RCl K C
 nt : cz K C "told"
structure bD where
 ad : List Str
 rs : List bW
def adS (ps : List bD) : List Str := ps.map fun p => dotted p.ad
structure DN (p : bD) : Prop where
 ad : cO p.ad
 rs : mR p.rs
def n6 (C : Nat → Addr) (H : Hp) (l : Addr) (ps : List bD) : Prop := ∃ xs : List V, H l = some (.lst xs) ∧ xs.length = ps.length ∧ ∀ (i : Nat) p, ps[i]? = some p → ∃ a lr, xs[i]? = some (.ref a) ∧ fH C H a (dotted p.ad) lr p.rs
theorem n6.same {C : Nat → Addr} {H H' : Hp} {l : Addr} {ps : List bD} (h : n6 C H l ps) (s : az H H') : n6 C H' l ps := by
 obtain ⟨xs, hl, hn, hx⟩ := h
 refine ⟨xs, s _ _ hl, hn, fun i r e => ?_⟩
 obtain ⟨a, t, e2, ra⟩ := hx i r e
 exact ⟨a, t, e2, ra.same s⟩
structure bO (ps : List bD) : Prop where
 hi : ps.length ≤ 12
 ok : ∀ p ∈ ps, DN p
 nd : (adS ps).Nodup
 up : ∀ p ∈ ps, p.ad.dropLast = [] ∨ dotted p.ad.dropLast ∈ adS ps
 cl : ∀ p ∈ ps, ∀ r ∈ p.rs, r.nm ≠ "" → dotted p.ad ++ "." ++ r.nm ∉ adS ps
theorem bO.at {ps : List bD} (g : bO ps) {i : Nat} {p : bD} (h : ps[i]? = some p) : DN p := g.ok p (List.mem_of_getElem? h)
def cF (C : Nat → Addr) (H : Hp) (h l : Addr) (ps : List bD) : Prop := ∃ dx fs, H h = some (.ins (C 8) dx fs) ∧ fs.lookup ("told" : Str) = some (.ref l) ∧ fs.lookup ("addresses" : Str) = none ∧ fs.lookup ("has" : Str) = none ∧ fs.lookup ("part" : Str) = none ∧ n6 C H l ps
theorem cF.same {C : Nat → Addr} {H H' : Hp} {h l : Addr} {ps : List bD} (x : cF C H h l ps) (s : az H H') : cF C H' h l ps := by
 obtain ⟨dx, fs, e, a1, a2, a3, a4, r⟩ := x
 exact ⟨dx, fs, s _ _ e, a1, a2, a3, a4, r.same s⟩
def jK (ys : List Str) : Str := if ys.dropLast = [] then "" else dotted ys.dropLast
theorem ir (b : Str) : dotted [b] = b := by rw [cB]; rfl
theorem HR {ys : List Str} (g : cO ys) : (Txt.rpartition (dotted ys) ("." : Str)).1 = jK ys := by
 unfold jK
 obtain ⟨xs, b, rfl⟩ : ∃ xs b, ys = xs ++ [b] := ⟨ys.dropLast, ys.getLast g.lo, (List.dropLast_concat_getLast g.lo).symm⟩
 rw [List.dropLast_concat]
 have hb : cX b := g.nm b (by simp)
 by_cases h : xs = []
 ·subst h
  rw [if_pos rfl, List.nil_append, ir, zO b hb]
  rfl
 ·rw [if_neg h, qN xs b h hb]
def su : Sp := fun vs H Q _ => ∃ ys : List Str, vs = [.str (dotted ys)] ∧ cO ys ∧ Pur (.str (jK ys)) H Q
def wI (C : Nat → Addr) : Sp := fun vs H Q _ => ∃ (p l la : Addr) (ys zs : List Str) (rs : List bW), vs = [.ref p, .ref la] ∧ fH C H p (dotted ys) l rs ∧ cO ys ∧ H la = some (.lst (zs.map V.str)) ∧ (ys.dropLast = [] ∨ dotted ys.dropLast ∈ zs) ∧ Pur (.bl false) H Q
def yU (C : Nat → Addr) : Sp := fun vs H Q _ => ∃ (p l la : Addr) (ys zs : List Str) (rs : List bW), vs = [.ref p, .ref la] ∧ fH C H p (dotted ys) l rs ∧ cO ys ∧ mR rs ∧ H la = some (.lst (zs.map V.str)) ∧ (∀ r ∈ rs, r.nm ≠ "" → dotted ys ++ "." ++ r.nm ∉ zs) ∧ Pur (.bl false) H Q
def yK (C : Nat → Addr) : Sp := fun vs H Q _ => ∃ (l : Addr) (ps : List bD), vs = [.ref l] ∧ n6 C H l ps ∧ bO ps ∧ Pur .non H Q
def o9 (C : Nat → Addr) (H : Hp) (xs : List V) (ps : List bD) : Prop := xs.length = ps.length ∧ ∀ (i : Nat) p, ps[i]? = some p → ∃ a lr, xs[i]? = some (.ref a) ∧ fH C H a (dotted p.ad) lr p.rs
theorem o9.same {C : Nat → Addr} {H H' : Hp} {xs : List V} {ps : List bD} (h : o9 C H xs ps) (s : az H H') : o9 C H' xs ps := ⟨h.1, fun i p e => by
 obtain ⟨a, lr, e2, pa⟩ := h.2 i p e
 exact ⟨a, lr, e2, pa.same s⟩⟩
def zL (C : Nat → Addr) (H : Hp) (h l : Addr) : Prop := ∃ dx fs, H h = some (.ins (C 8) dx fs) ∧ fs.lookup ("told" : Str) = some (.ref l) ∧ fs.lookup ("addresses" : Str) = none ∧ fs.lookup ("has" : Str) = none ∧ fs.lookup ("part" : Str) = none
theorem rm {C : Nat → Addr} {H : Hp} {h l : Addr} {xs : List V} {ps : List bD} (hd : zL C H h l) (hl : H l = some (.lst xs)) (px : o9 C H xs ps) : cF C H h l ps := by
 obtain ⟨dx, fs, e, a1, a2, a3, a4⟩ := hd
 exact ⟨dx, fs, e, a1, a2, a3, a4, xs, hl, px.1, px.2⟩
def BK (C : Nat → Addr) : Sp := fun vs H Q _ => ∃ (x dx d : Addr) (ps : List bD) (xs : List V), vs = [.ref x, .ref d] ∧ H x = some (.ins (C 8) dx []) ∧ H d = some (.lst xs) ∧ o9 C H xs ps ∧ bO ps ∧ ∀ l H', H l = none → SameBut x H H' → zL C H' x l → H' l = some (.lst xs) → Q .non H'
def uL (C : Nat → Addr) : Sp := fun vs H Q _ => ∃ (h l : Addr) (ps : List bD), vs = [.ref h] ∧ cF C H h l ps ∧ bO ps ∧ ∀ b H' zs, H b = none → az H H' → zs.Perm (adS ps) → sortedS zs = true → H' b = some (.lst (zs.map V.str)) → Q (.ref b) H'
def CJ (C : Nat → Addr) : Sp := fun vs H Q _ => ∃ (h l : Addr) (ps : List bD) (z : Str), vs = [.ref h, .str z] ∧ cF C H h l ps ∧ bO ps ∧ Pur (.bl (decide (z ∈ adS ps))) H Q
theorem Gu {ps : List bD} {i : Nat} (hi : i < ps.length) : ((adS ps).map V.str).getD i .non = V.str (dotted ps[i].ad) := by simp [adS, List.getD, hi]
theorem zp {ps : List bD} {n : Nat} (hn : n = ps.length) : (List.range n).map (fun i => ((adS ps).map V.str).getD i .non) = (adS ps).map V.str := by
 apply List.ext_getElem
 ·simp [adS, hn]
 ·intro i h1 h2
  have : i < ps.length := by simpa [adS] using h2
  simp [adS, this]
theorem zU {ps : List bD} (nd : (adS ps).Nodup) {i : Nat} {p : bD} (h : ps[i]? = some p) : inV (.str (dotted p.ad)) (((adS ps).take i).map V.str) = false := yh fun v hv => by
 obtain ⟨z, hz, rfl⟩ := List.mem_map.mp hv
 refine ⟨z, rfl, fun e => ?_⟩
 obtain ⟨j, hj, ej⟩ := List.getElem_of_mem hz
 have hji : j < i := Nat.lt_of_lt_of_le hj (List.length_take_le i _)
 have e1 : (adS ps)[i]? = some (dotted p.ad) := by unfold adS; rw [List.getElem?_map, h]; rfl
 have e2 : (adS ps)[j]? = some z := by
  have : ((adS ps).take i)[j]? = some z := by rw [List.getElem?_eq_getElem hj, ej]
  rw [List.getElem?_take] at this
  simpa [hji] using this
 have hl := (List.getElem?_eq_some_iff.mp e2).1
 exact absurd ((List.getElem?_inj hl nd).mp (by rw [e1, e2, e])) (Nat.ne_of_lt hji)
theorem Pu {a b : Str} (ha : a.length ≤ 1000) (hb : b.length ≤ 6000) : (a ++ b).length ≤ sizeLine := by
 rw [uN, sizeLine_eq]; omega
def Bq (C : Addr) (g : Str) : Sp := fun vs H Q _ => ∃ x y, vs = [.ref x, y] ∧ H x = some (ExO true x C none) ∧ (∃ z : Str, y = .str z ∧ z.length ≤ 1000) ∧ ∀ p, H p = none → p ≠ x → Q .non (upd (upd H p (XdO p [(g, y)])) x (ExO true x C (some p)))
def jC (C : Nat → Addr) (H : Hp) (x : Addr) (z : Str) : Prop := ∃ q, H x = some (ExO false x (C 21) (some q)) ∧ H q = some (XdO q [("address", .str z)])
def yQ (C : Nat → Addr) : Sp := fun vs H Q E => ∃ (h l : Addr) (ps : List bD) (z : Str), vs = [.ref h, .str z] ∧ cF C H h l ps ∧ bO ps ∧ z.length ≤ 1000 ∧
 (∀ (i : Nat) p a lr H', az H H' → ps[i]? = some p → dotted p.ad = z → fH C H' a (dotted p.ad) lr p.rs → Q (.ref a) H') ∧ (z ∉ adS ps → ∀ x H', az H H' → jC C H' x z → E (.ref x) none H')
theorem wW {X : Cx} {K : PySem.W.Frag} (h : X.K = K) : jE X (.builtin "isinstance") (CQ K) := by subst h; exact xF
theorem BJ {X : Cx} {K : PySem.W.Frag} {e : Expr} {f : Str} {pos : Pos} {ta : TE} (h : X.K = K) (he : PE X e ta) (hb : attributeBase e f X.env (eval e X.env) = eval e X.env) : PE X (.Attribute e f pos) (Gq K ta f) := by subst h; exact Ex he hb
def lt1 (b : Int) : Str := ⟨#[97 + b.toNat]⟩
theorem Hn {xs : List V} (h : ∀ (i : Nat) v, xs[i]? = some v → ∃ b : Int, v = V.str (lt1 b) ∧ 0 ≤ b ∧ b < 26) : ∃ bs : List Int, bs.length = xs.length ∧ xs = (bs.map lt1).map V.str ∧ u6 bs := by
 obtain ⟨bs, hl, hb⟩ := fZ (fun _ v b => v = V.str (lt1 b) ∧ 0 ≤ b ∧ b < 26) xs 0 (fun i v e => h i v e)
 have em : xs = (bs.map lt1).map V.str := by
  apply List.ext_getElem?
  intro i
  rw [List.getElem?_map, List.getElem?_map]
  cases e : xs[i]? with
  | none =>
   have e2 : bs[i]? = none := by
    rw [List.getElem?_eq_none_iff] at e ⊢
    omega
   rw [e2]; rfl
  | some v =>
   obtain ⟨z, ez, rfl, _⟩ := hb i v e
   rw [ez]; rfl
 refine ⟨bs, hl, em, fun b hb' => ?_⟩
 obtain ⟨i, hi, e⟩ := List.getElem_of_mem hb'
 obtain ⟨z, ez, _, nz⟩ := hb i _ (List.getElem?_eq_getElem (by omega))
 rw [List.getElem?_eq_getElem hi, e] at ez
 cases ez
 exact nz
theorem jA (zs : List Str) {k : Int} (h : 0 ≤ k) : fB (zs.map V.str) none (some k) = (zs.take k.toNat).map V.str := by
 have e := Dy (zs.map V.str) k.toNat
 rw [show ((k.toNat : Nat) : Int) = k from by omega] at e
 rw [e, List.map_take]
theorem zx (zs : List Str) {a b : Int} (h0 : 0 ≤ a) (h1 : 0 ≤ b) (ha : a.toNat ≤ zs.length) (hb : b.toNat ≤ zs.length) : fB (zs.map V.str) (some a) (some b) = ((zs.drop a.toNat).take (b.toNat - a.toNat)).map V.str := by
 unfold fB
 have e1 := HT.sIx_nat (zs.map V.str).length 0 a.toNat
 have e2 := HT.sIx_nat (zs.map V.str).length (zs.map V.str).length b.toNat
 rw [show ((a.toNat : Nat) : Int) = a from by omega] at e1
 rw [show ((b.toNat : Nat) : Int) = b from by omega] at e2
 rw [e1, e2, List.length_map, Nat.min_eq_left ha, Nat.min_eq_left hb, List.map_take, List.map_drop]
theorem rR (ks : List Int) : Txt.join ("" : Str) (ks.map lt1) = lQ ks := Fo ks
theorem rJ {ks : List Int} (h : ks.length ≤ 8) : ((ks.map lt1).map (·.length)).sum + (ks.map lt1).length * (("" : Str)).length ≤ 16777216 := yt h
theorem HJ {as bs : List Int} {c : Int} (ha : u6 as) (hb : u6 bs) (h0 : 0 ≤ c) (h1 : c < 26) (h8 : as.length + 1 + bs.length ≤ 8) : cX (lQ as ++ lt1 c ++ lQ bs) := by
 have e : lQ as ++ lt1 c ++ lQ bs = lQ (as ++ [c] ++ bs) := by
  apply jU
  rw [cH, cH, lL, lL, lL]
  simp [lt1]
 rw [e]
 refine Gy (by simp; omega) (by simp; omega) fun k hk => ?_
 simp only [List.mem_append, List.mem_singleton] at hk
 rcases hk with (hk | rfl) | hk
 ·exact ha k hk
 ·exact ⟨h0, h1⟩
 ·exact hb k hk
def Hc : List Str := ["let", "be", "draw", "as", "part", "from", "late", "a"]
theorem Er : ∀ z ∈ Hc, cX z := fun z hz => by
 simp only [Hc, List.mem_cons, List.not_mem_nil, or_false] at hz
 rcases hz with rfl | rfl | rfl | rfl | rfl | rfl | rfl | rfl
 all_goals exact qI (by decide +kernel)
def zH : Sp := fun vs H Q _ => ∃ c : Int, vs = [.int c] ∧ ∀ l H' (ws : List Str), H l = none → az H H' → ws.length = 8 → (∀ w ∈ ws, cX w) → H' l = some (.lst (ws.map V.str)) → Q (.ref l) H'
theorem Bu (x : Str) : ¬ (Builtin.Str.strKind x < Builtin.Str.strKind ("." : Str)) := by
 have e : Builtin.Str.strKind ("." : Str) = 1 := by decide +kernel
 rw [e]
 unfold Builtin.Str.strKind
 split
 ·decide
 ·split <;> decide
theorem By {ys : List Str} (g : cO ys) : Txt.count (dotted ys) ("." : Str) = (ys.length : Int) - 1 := by
 have hs := dq ys g.lo g.nm
 have h1 : 1 ≤ (dotted ys).length := by
  obtain ⟨y, hy⟩ := List.exists_mem_of_ne_nil ys g.lo
  obtain ⟨c, hc, _⟩ := mK g.lo g.nm
  have := List.length_pos_of_mem hc
  rw [Array.length_toList] at this
  exact this
 have hl := congrArg List.length hs
 unfold Txt.split at hl
 have hd : (("." : Str)).length = 1 := by decide +kernel
 rw [if_neg (by rw [hd, decide_eq_false (by omega), decide_eq_false (Bu _)]; decide)] at hl
 unfold Txt.count
 by_cases he : (Builtin.Str.occurrences (dotted ys) "." 0 (dotted ys).length ((dotted ys).length + 1)).isEmpty = true
 ·rw [if_pos he] at hl
  have hl : 1 = ys.length := hl
  rw [List.isEmpty_iff.mp he, ← hl]
  rfl
 ·rw [if_neg he, length_partsBetween] at hl
  omega
theorem pH {p : List Str} {w : Str} (h : p ≠ []) : dotted p ++ "." ++ w = dotted (p ++ [w]) := by
 rw [cB, cB, ph, join_snoc _ _ _ h]
theorem tQ {a : List Str} (g : cO a) : dotted a ≠ "" := fun e => by
 obtain ⟨c, hc, _⟩ := mK g.lo g.nm
 have e0 : ("" : Str).cps.toList = [] := by decide +kernel
 rw [e, e0] at hc
 cases hc
structure bK (as : List (List Str)) : Prop where
 hi : as.length ≤ 12
 ok : ∀ a ∈ as, cO a
 nd : (as.map dotted).Nodup
 up : ∀ a ∈ as, a.dropLast = [] ∨ a.dropLast ∈ as
theorem bK.snoc {as : List (List Str)} {a : List Str} (g : bK as) (h : as.length < 12) (ga : cO a) (hn : dotted a ∉ as.map dotted) (hu : a.dropLast = [] ∨ a.dropLast ∈ as) : bK (as ++ [a]) := by
 refine ⟨by rw [List.length_append]; show as.length + 1 ≤ 12; omega, fun b hb => ?_, ?_, fun b hb => ?_⟩
 ·rcases List.mem_append.mp hb with hb | hb
  ·exact g.ok b hb
  ·rw [List.mem_singleton.mp hb]; exact ga
 ·rw [List.map_append]
  exact nT g.nd hn
 ·rcases List.mem_append.mp hb with hb | hb
  ·exact (g.up b hb).imp id (List.mem_append_left _)
  ·rw [List.mem_singleton.mp hb]
   exact hu.imp id (List.mem_append_left _)
theorem bK.rev {as : List (List Str)} (g : bK as) : bK as.reverse := by
 refine ⟨by rw [List.length_reverse]; exact g.hi, fun b hb => g.ok b (List.mem_reverse.mp hb), ?_, fun b hb => (g.up b (List.mem_reverse.mp hb)).imp id List.mem_reverse.mpr⟩
 rw [List.map_reverse]
 exact List.pairwise_reverse.mpr (List.Pairwise.imp (fun h => Ne.symm h) g.nd)
theorem eU {zs : List Str} {c k : Int} (h : zs ≠ []) : ∃ z ∈ zs, atI (zs.map V.str) (pick c k zs.length) = some (V.str z) := by
 have hl : 0 < (zs.length : Int) := by have := List.length_pos_iff.mpr h; omega
 have h1 := d9 c k hl
 have h2 := fP c k hl
 have h3 : (pick c k zs.length).toNat < zs.length := by omega
 refine ⟨zs[(pick c k zs.length).toNat], List.getElem_mem h3, ?_⟩
 have := bu (xs := zs.map V.str) (j := (pick c k zs.length).toNat) (v := V.str zs[(pick c k zs.length).toNat]) (by rw [List.getElem?_map, List.getElem?_eq_getElem h3]; rfl)
 rwa [show (((pick c k zs.length).toNat : Nat) : Int) = pick c k zs.length from by omega] at this
def Di : Sp := fun vs H Q _ => ∃ (c n : Int) (lw : Addr) (ws : List Str), vs = [.int c, .int n, .ref lw] ∧ 1 ≤ n ∧ n ≤ 12 ∧ H lw = some (.lst (ws.map V.str)) ∧ ws.length = 8 ∧ (∀ w ∈ ws, cX w) ∧
 ∀ l H' (as : List (List Str)), H l = none → az H H' → as ≠ [] → bK as → H' l = some (.lst ((as.map dotted).map V.str)) → Q (.ref l) H'
def d8 (v : V) : Bool := match v with | .str z => decide (Txt.count z "." < 2) | _ => false
theorem Bt {as : List (List Str)} (g : bK as) {v : V} (h : v ∈ ((as.map dotted).map V.str).filter d8) : ∃ a ∈ as, v = .str (dotted a) ∧ a.length ≤ 2 := by
 obtain ⟨h1, h2⟩ := List.mem_filter.mp h
 obtain ⟨z, hz, rfl⟩ := List.mem_map.mp h1
 obtain ⟨a, ha, rfl⟩ := List.mem_map.mp hz
 have h3 : Txt.count (dotted a) "." < 2 := of_decide_eq_true h2
 rw [By (g.ok a ha)] at h3
 exact ⟨a, ha, rfl, by omega⟩
theorem dB (zs : List Str) (p : V → Bool) : (zs.map V.str).filter p = (zs.filter fun z => p (.str z)).map V.str := by rw [List.filter_map]; rfl
def yM : Sp := fun vs H Q _ => ∃ (c : Int) (la lw : Addr) (as : List (List Str)) (ws : List Str), vs = [.int c, .ref la, .ref lw] ∧ H la = some (.lst ((as.map dotted).map V.str)) ∧ as ≠ [] ∧ bK as ∧ H lw = some (.lst (ws.map V.str)) ∧ ws.length = 8 ∧ (∀ w ∈ ws, cX w) ∧ ∀ ys, cO ys → Pur (.str (dotted ys)) H Q
theorem O3 : cX ("a" : Str) := qI (by decide +kernel)
theorem zb {w : Str} (h : cX w) : cO [w] := ⟨by simp, (by show 1 ≤ 3; decide), fun y hy => by rw [List.mem_singleton.mp hy]; exact h⟩
theorem zW {p : List Str} {w : Str} (gp : cO p) (h2 : p.length ≤ 2) (nw : cX w) : cO (p ++ [w]) := ⟨by simp, by rw [List.length_append]; show p.length + 1 ≤ 3; omega, fun y hy => by
 rcases List.mem_append.mp hy with hy | hy
 ·exact gp.nm y hy
 ·rw [List.mem_singleton.mp hy]; exact nw⟩
structure G4 (so : Nat) (nm ad wd : Str) : Prop where
 h5 : so ≤ 5
 hn : so < 5 → cX nm
 h0 : so = 5 → nm = ""
 ha : (ad = "" ∧ so = 5) ∨ ∃ ys, cO ys ∧ ad = dotted ys ∧ cX wd
def yN (C : Nat → Addr) : Sp := fun vs H Q _ => ∃ (p : Addr) (so : Nat) (nm ad wd : Str), vs = [.ref p] ∧ H p = some (.tup [.str (eE so), .str nm, .str ad, .str wd]) ∧ G4 so nm ad wd ∧
 ∀ a l H' r, GoodR r → r.so = so → r.nm = nm → (so < 5 → r.ad = ad ∧ r.wd = wd) → az H H' → H a = none → H l = none → cA C H' a l r → Q (.ref a) H'
theorem Ig : xY [⟨1, .num 1⟩] := ⟨by simp, by decide, (fun t ht => by rw [List.mem_singleton.mp ht]; exact ⟨.inl rfl, (by show 1 < 10 ^ 20; decide)⟩), fun t ht => by cases ht; rfl⟩
theorem Ff {ys : List Str} {w : Str} (g : cO ys) (h : cX w) : xY [⟨1, .nms false ys⟩, ⟨-1, .nms false [w]⟩] := by
 refine ⟨by simp, (by show 2 ≤ 6; decide), fun t ht => ?_, fun t ht => by cases ht; rfl⟩
 simp only [List.mem_cons, List.not_mem_nil, or_false] at ht
 rcases ht with rfl | rfl
 ·exact ⟨.inl rfl, g.lo, Nat.le_trans g.hi (by decide), g.nm⟩
 ·exact ⟨.inr rfl, (by simp), (by show 1 ≤ 4; decide), fun y hy => by rw [List.mem_singleton.mp hy]; exact h⟩
def Kd (K : PySem.W.Frag) (n : Bool) : R2 := fun x y H Q => ∃ a b xs, x = .ref a ∧ y = .ref b ∧ SqL K H a xs ∧ SqL K H b [] ∧ Q (.bl (xs.isEmpty == n)) H
theorem Ie {X : Cx} {K : PySem.W.Frag} (hK : X.K = K) (hu : X.A.units + 64 < cLine) : OpR X (compareOp .Eq) (Kd K true) := by
 subst hK
 intro pins s σ H x y v u Q I rx ry h
 obtain ⟨a, b, xs, rfl, rfl, ha, hb, q⟩ := h
 cases rx; cases ry
 obtain ⟨us, r1, p1, _⟩ := I.list ha
 obtain ⟨ws, r2, p2, _⟩ := I.list hb
 cases r2
 cases r1 with
 | nil => exact SeqAt.eq_listAt (e := fun _ => true) p1.isList p2.isList rfl (by omega) (fun j h1 h2 => absurd h1 (Nat.not_lt_zero _)) ⟨.bl true, H, I, rfl, q⟩
 | cons r t => exact SeqAt.eq_list_lengthsAt p1.isList p2.isList (by simp) (by omega) ⟨.bl false, H, I, rfl, q⟩
theorem Io {X : Cx} {K : PySem.W.Frag} (hK : X.K = K) (hu : X.A.units + 64 < cLine) : OpR X (compareOp .NotEq) (Kd K false) := by
 subst hK
 intro pins s σ H x y v u Q I rx ry h
 obtain ⟨a, b, xs, rfl, rfl, ha, hb, q⟩ := h
 cases rx; cases ry
 obtain ⟨us, r1, p1, _⟩ := I.list ha
 obtain ⟨ws, r2, p2, _⟩ := I.list hb
 cases r2
 cases r1 with
 | nil =>
  have := SeqAt.RcNeAt.lists (A := X.A) (s := s) (e := fun _ => true) p1.isList p2.isList rfl (by omega) fun j h1 h2 => absurd h1 (Nat.not_lt_zero _)
  exact this X.prog X.w X.xe _ ⟨.bl false, H, I, rfl, q⟩
 | cons r t =>
  have := SeqAt.RcNeAt.lists_lengths (A := X.A) (s := s) p1.isList p2.isList (by simp) (by omega)
  exact this X.prog X.w X.xe _ ⟨.bl true, H, I, rfl, q⟩
theorem Ii {z : Str} (h : (!(Builtin.Str.occurrences z ("." : Str) 0 z.length 1).isEmpty) = true) : 46 ∈ z.cps.toList := by
 have hne : Builtin.Str.occurrences z ("." : Str) 0 z.length 1 ≠ [] := fun e => by rw [e] at h; cases h
 obtain ⟨i, hi⟩ := List.exists_mem_of_ne_nil _ hne
 obtain ⟨h1, h2⟩ := StrLaws.occ_spec _ _ _ _ _ _ hi
 rw [ph] at h1 h2
 exact List.mem_of_getElem? ((rF z 46 i).mp ⟨h1, h2⟩)
def o8 (v : V) : Bool := match v with | .str z => !(Builtin.Str.occurrences z ("." : Str) 0 z.length 1).isEmpty | _ => false
theorem yC {as : List (List Str)} (g : bK as) {z : Str} (h : z ∈ (as.map dotted).filter fun z => o8 (.str z)) : ∃ xs b, xs ++ [b] ∈ as ∧ z = dotted (xs ++ [b]) ∧ xs ≠ [] := by
 obtain ⟨h1, h2⟩ := List.mem_filter.mp h
 obtain ⟨a, ha, rfl⟩ := List.mem_map.mp h1
 have ga := g.ok a ha
 have h46 := Ii h2
 obtain ⟨xs, b, rfl⟩ : ∃ xs b, a = xs ++ [b] := ⟨a.dropLast, a.getLast ga.lo, (List.dropLast_concat_getLast ga.lo).symm⟩
 refine ⟨xs, b, ha, rfl, fun e => ?_⟩
 subst e
 rw [List.nil_append, ir] at h46
 exact (ga.nm b (by simp)).nodot h46
theorem qt {xs : List Str} {b : Str} : atI ((xs ++ [b]).map V.str) (-1) = some (V.str b) := by
 unfold atI ixN
 rw [if_neg (by decide), if_pos (by simp; omega)]
 simp only [List.length_map, List.length_append, List.length_singleton, Option.bind_some, List.map_append]
 rw [show (-1 + ((xs.length + 1 : Nat) : Int)).toNat = xs.length from by omega, List.getElem?_append_right (by simp)]
 simp
def GJ : List V := [.str "draw", .str "late", .str "take", .str "draw", .str "take", .str "let", .str "deed", .str "need"]
theorem Dn {k : Int} (h0 : 0 ≤ k) (h1 : k < 8) : ∃ so, so ≤ 5 ∧ atI GJ k = some (V.str (eE so)) := by
 rcases (by omega : k = 0 ∨ k = 1 ∨ k = 2 ∨ k = 3 ∨ k = 4 ∨ k = 5 ∨ k = 6 ∨ k = 7) with rfl | rfl | rfl | rfl | rfl | rfl | rfl | rfl
 ·exact ⟨2, by decide, bu (j := 0) rfl⟩
 ·exact ⟨3, by decide, bu (j := 1) rfl⟩
 ·exact ⟨4, by decide, bu (j := 2) rfl⟩
 ·exact ⟨2, by decide, bu (j := 3) rfl⟩
 ·exact ⟨4, by decide, bu (j := 4) rfl⟩
 ·exact ⟨0, by decide, bu (j := 5) rfl⟩
 ·exact ⟨1, by decide, bu (j := 6) rfl⟩
 ·exact ⟨5, by decide, bu (j := 7) rfl⟩
def yO : Sp := fun vs H Q _ => ∃ (c : Int) (lk la lw : Addr) (ks : List Str) (as : List (List Str)) (ws : List Str), vs = [.int c, .ref lk, .ref la, .ref lw] ∧ H lk = some (.lst (ks.map V.str)) ∧ H la = some (.lst ((as.map dotted).map V.str)) ∧ as ≠ [] ∧ bK as ∧ H lw = some (.lst (ws.map V.str)) ∧ ws.length = 8 ∧ (∀ w ∈ ws, cX w) ∧
 ∀ p H' so nm ad wd, H p = none → az H H' → H' p = some (.tup [.str (eE so), .str nm, .str ad, .str wd]) → G4 so nm ad wd → (so < 5 → nm ∈ ws ∧ nm ∉ ks) → Q (.ref p) H'
theorem yI : ∀ (p : Str) (l : List Str), risingS p l = true → (p :: l).Pairwise fun a b => a.cps.toList ≤ b.cps.toList
 | p, [], _ => by simp
 | p, x :: r, h => by
  have h : (!ltCps x.cps.toList p.cps.toList && risingS x r) = true := h
  rw [Bool.and_eq_true] at h
  have h1 : ¬ (x.cps.toList < p.cps.toList) := by
   have := h.1
   rw [ltCps_eq] at this
   simpa using this
  have ih := yI x r h.2
  have hpx : p.cps.toList ≤ x.cps.toList := List.not_lt.mp h1
  refine List.Pairwise.cons (fun c hc => ?_) ih
  rcases List.mem_cons.mp hc with rfl | hc
  ·exact hpx
  ·exact List.le_trans hpx ((List.pairwise_cons.mp ih).1 c hc)
theorem qx : ∀ {l : List Str}, sortedS l = true → l.Pairwise fun a b => a.cps.toList ≤ b.cps.toList
 | [], _ => .nil
 | x :: r, h => yI x r h
theorem qW {a b : List Str} (p : a.Perm b) (ha : sortedS a = true) (hb : sortedS b = true) : a = b :=
 List.Perm.eq_of_pairwise (fun a b _ _ h1 h2 => jU (List.le_antisymm h1 h2)) (qx ha) (qx hb) p
theorem tW (zs : List Str) : ∀ v ∈ zs.map V.str, cN v = true ∨ ∃ p, v = .ref p := fun v hv => by
 obtain ⟨z, _, rfl⟩ := List.mem_map.mp hv
 exact .inl rfl
theorem aR.u1 {k : Nat} {A : Around} (r : aR k A) : A.units + 1 < cLine := by have := r.units; omega
structure Q4 where
 so : Nat
 nm : Str
 ad : Str
 wd : Str
def TupAt (H : Hp) (p : Addr) (d : Q4) : Prop := H p = some (.tup [.str (eE d.so), .str d.nm, .str d.ad, .str d.wd])
def gA (H : Hp) (l : Addr) (ds : List Q4) : Prop := ∃ xs : List V, H l = some (.lst xs) ∧ xs.length = ds.length ∧ ∀ (i : Nat) d, ds[i]? = some d → ∃ p, xs[i]? = some (.ref p) ∧ TupAt H p d
theorem gA.same {H H' : Hp} {l : Addr} {ds : List Q4} (h : gA H l ds) (s : az H H') : gA H' l ds := by
 obtain ⟨xs, hl, hn, hx⟩ := h
 exact ⟨xs, s _ _ hl, hn, fun i d e => by obtain ⟨p, e2, t⟩ := hx i d e; exact ⟨p, e2, s _ _ t⟩⟩
theorem gA.off {H : Hp} {l b : Addr} {ds : List Q4} {o : HO} (h : gA H l ds) (hl : l ≠ b) (hb : ∀ ys, H b ≠ some (.tup ys)) : gA (upd H b o) l ds := by
 obtain ⟨xs, hx, hn, ht⟩ := h
 refine ⟨xs, by rw [aG hl]; exact hx, hn, fun i d e => ?_⟩
 obtain ⟨p, e2, t⟩ := ht i d e
 exact ⟨p, e2, by unfold TupAt; rw [aG (fun z => hb _ (z ▸ t))]; exact t⟩
structure DictAt (H0 H : Hp) (R : Addr) (as : List (List Str)) (n : Nat) (L : Nat → Addr) (rs : Nat → List Q4) : Prop where
 r0 : H0 R = none
 l0 : ∀ i, i < n → H0 (L i) = none
 dk : ∃ kvs : List (Key × V), H R = some (.dK kvs) ∧ kvs.length ≤ n ∧ ∀ (i : Nat) a, i < n → as[i]? = some a → gq kvs (.inr (dotted a)) = some (.ref (L i))
 ts : ∀ i, i < n → gA H (L i) (rs i)
 ap : ∀ i j, i < n → j < n → L i = L j → i = j
structure di (as : List (List Str)) (rs : Nat → List Q4) : Prop where
 hi : ∀ i, i < as.length → (rs i).length ≤ 12
 g4 : ∀ i, i < as.length → ∀ d ∈ rs i, G4 d.so d.nm d.ad d.wd
 cl : ∀ (i : Nat) a, as[i]? = some a → ∀ d ∈ rs i, d.so < 5 → dotted a ++ "." ++ d.nm ∉ as.map dotted
theorem Do {as : List (List Str)} (nd : (as.map dotted).Nodup) {i j : Nat} {a b : List Str} (ha : as[i]? = some a) (hb : as[j]? = some b) (h : i ≠ j) : dotted a ≠ dotted b := fun e => by
 have e1 : (as.map dotted)[i]? = some (dotted a) := by rw [List.getElem?_map, ha]; rfl
 have e2 : (as.map dotted)[j]? = some (dotted b) := by rw [List.getElem?_map, hb]; rfl
 exact h ((List.getElem?_inj (List.getElem?_eq_some_iff.mp e1).1 nd).mp (by rw [e1, e2, e]))
theorem DictAt.same {H0 H H' : Hp} {R : Addr} {as : List (List Str)} {n : Nat} {L : Nat → Addr} {rs : Nat → List Q4} (h : DictAt H0 H R as n L rs) (s : az H H') : DictAt H0 H' R as n L rs := by
 obtain ⟨a, b, ⟨kvs, c, d⟩, e, f⟩ := h
 exact ⟨a, b, ⟨kvs, s _ _ c, d⟩, fun i hi => (e i hi).same s, f⟩
theorem DictAt.more {H0 H : Hp} {R b : Addr} {as : List (List Str)} {n : Nat} {L : Nat → Addr} {rs : Nat → List Q4} {a : List Str} (nd : (as.map dotted).Nodup) (h : DictAt H0 H R as n L rs) (s : az H0 H) (hb : H b = none) (ha : as[n]? = some a) :
  ∀ kvs, H R = some (.dK kvs) → kvs.length ≤ n ∧ DictAt H0 (upd (upd H b (.lst [])) R (.dK (putK kvs (.inr (dotted a)) (.ref b)))) R as (n + 1) (fun i => if i = n then b else L i) (fun i => if i = n then [] else rs i) := by
 intro kvs hk
 obtain ⟨r0, l0, ⟨kvs', hk', hl, hv⟩, ts, ap⟩ := h
 rw [hk] at hk'
 cases hk'
 have hbR : R ≠ b := aF hk hb
 have hLb : ∀ i, i < n → L i ≠ b := fun i hi => by obtain ⟨xs, hx, _⟩ := ts i hi; exact aF hx hb
 refine ⟨hl, r0, fun i hi => ?_, ⟨_, ao, Nat.le_trans (gn _ _ _) (Nat.succ_le_succ hl), fun i c hi hc => ?_⟩, fun i hi => ?_, fun i j hi hj e => ?_⟩
 ·by_cases k : i = n
  ·rw [if_pos k]; exact s.free hb
  ·rw [if_neg k]; exact l0 i (by omega)
 ·rw [nG]
  by_cases k : i = n
  ·subst k
   rw [ha] at hc
   cases hc
   rw [if_pos rfl, if_pos rfl]
  ·rw [if_neg k, if_neg (fun z => Do nd hc ha k (Sum.inr.inj z))]
   exact hv i c (by omega) hc
 ·by_cases k : i = n
  ·subst k
   simp only [if_true]
   refine ⟨[], by rw [aG hbR.symm]; exact ao, rfl, fun i d e => by simp at e⟩
  ·simp only [if_neg k]
   obtain ⟨xs, hx, hn, ht⟩ := ts i (by omega)
   have hR : L i ≠ R := fun z => by rw [z, hk] at hx; cases hx
   exact (gA.off (H := H) ⟨xs, hx, hn, ht⟩ (hLb i (by omega)) (fun ys => by rw [hb]; intro z; cases z)).off hR (fun ys => by rw [aG hbR, hk]; intro z; cases z)
 ·by_cases k : i = n
  ·by_cases m : j = n
   ·omega
   ·simp only [if_pos k, if_neg m] at e
    exact absurd e.symm (hLb j (by omega))
  ·by_cases m : j = n
   ·simp only [if_neg k, if_pos m] at e
    exact absurd e (hLb i (by omega))
   ·simp only [if_neg k, if_neg m] at e
    exact ap i j (by omega) (by omega) e
theorem DictAt.row {H0 H : Hp} {R p : Addr} {as : List (List Str)} {n i : Nat} {L : Nat → Addr} {rs : Nat → List Q4} {d : Q4} (h : DictAt H0 H R as n L rs) (hi : i < n) (hp : TupAt H p d) :
  ∀ xs, H (L i) = some (.lst xs) → DictAt H0 (upd H (L i) (.lst (xs ++ [.ref p]))) R as n L (fun j => if j = i then rs i ++ [d] else rs j) := by
 intro xs hx
 obtain ⟨r0, l0, ⟨kvs, hk, hl, hv⟩, ts, ap⟩ := h
 have hRi : R ≠ L i := fun z => by rw [z, hx] at hk; cases hk
 have hT : ∀ ys, H (L i) ≠ some (.tup ys) := fun ys => by rw [hx]; intro z; cases z
 refine ⟨r0, l0, ⟨kvs, by rw [aG hRi]; exact hk, hl, hv⟩, fun j hj => ?_, ap⟩
 by_cases k : j = i
 ·subst k
  simp only [if_true]
  obtain ⟨ys, hy, hn, ht⟩ := ts j hj
  rw [hx] at hy
  cases hy
  refine ⟨_, ao, by rw [List.length_append, List.length_append, hn]; rfl, fun m e hm => ?_⟩
  have off : ∀ q e, TupAt H q e → TupAt (upd H (L j) (.lst (xs ++ [.ref p]))) q e := fun q e t => by unfold TupAt; rw [aG (fun z => hT _ (z ▸ t))]; exact t
  rcases Nat.lt_or_ge m (rs j).length with z | z
  ·rw [List.getElem?_append_left z] at hm
   obtain ⟨q, e2, t⟩ := ht m e hm
   exact ⟨q, by rw [List.getElem?_append_left (by omega)]; exact e2, off q e t⟩
  ·rw [List.getElem?_append_right z] at hm
   have hm0 : m - (rs j).length = 0 := by
    have := (List.getElem?_eq_some_iff.mp hm).1
    simp at this
    omega
   rw [hm0] at hm
   cases hm
   exact ⟨p, by rw [List.getElem?_append_right (by omega), hn, hm0]; rfl, off p d hp⟩
 ·simp only [if_neg k]
  exact (ts j hj).off (fun z => k (ap j i hj hi z)) hT
theorem DW {as : List (List Str)} {c k : Int} (h : as ≠ []) : ∃ (i : Nat) (a : List Str), as[i]? = some a ∧ atI ((as.map dotted).map V.str) (pick c k (as.map dotted).length) = some (V.str (dotted a)) := by
 obtain ⟨z, hz, e⟩ := eU (zs := as.map dotted) (c := c) (k := k) (by simpa using h)
 obtain ⟨a, ha, rfl⟩ := List.mem_map.mp hz
 obtain ⟨i, hi, e2⟩ := List.getElem_of_mem ha
 exact ⟨i, a, by rw [List.getElem?_eq_getElem hi, e2], e⟩
def uK (a : Str) (v : V) : V := match v with | .str w => .str (a ++ "." ++ w) | v => v
theorem di.row {as : List (List Str)} {rs : Nat → List Q4} {i : Nat} {a : List Str} {d : Q4} (h : di as rs) (hi : as[i]? = some a) (hl : (rs i).length < 12) (g : G4 d.so d.nm d.ad d.wd) (hc : d.so < 5 → dotted a ++ "." ++ d.nm ∉ as.map dotted) : di as (fun j => if j = i then rs i ++ [d] else rs j) := by
 refine ⟨fun j hj => ?_, fun j hj e he => ?_, fun j b hb e he h5 => ?_⟩
 ·by_cases k : j = i
  ·simp only [if_pos k, List.length_append]
   show (rs i).length + 1 ≤ 12
   omega
  ·simp only [if_neg k]
   exact h.hi j hj
 ·by_cases k : j = i
  ·subst k
   simp only [if_true] at he
   rcases List.mem_append.mp he with he | he
   ·exact h.g4 j hj e he
   ·rw [List.mem_singleton.mp he]; exact g
  ·simp only [if_neg k] at he
   exact h.g4 j hj e he
 ·by_cases k : j = i
  ·subst k
   rw [hi] at hb
   cases hb
   simp only [if_true] at he
   rcases List.mem_append.mp he with he | he
   ·exact h.cl j a hi e he h5
   ·rw [List.mem_singleton.mp he] at h5 ⊢; exact hc h5
  ·simp only [if_neg k] at he
   exact h.cl j b hb e he h5
theorem BR {ds : List Q4} {n : Nat} (hn : n = ds.length) : (List.range n).map (fun m => V.str ((ds.map Q4.nm).getD m "")) = (ds.map Q4.nm).map V.str := by
 apply List.ext_getElem
 ·simp [hn]
 ·intro m h1 h2
  have : m < ds.length := by simpa using h2
  simp [this]
theorem DictAt.get {H0 H H' : Hp} {R : Addr} {as : List (List Str)} {n i : Nat} {L : Nat → Addr} {rs : Nat → List Q4} {a : List Str} (h : DictAt H0 H R as n L rs) (hi : i < n) (ha : as[i]? = some a) (s : az H H') : lD H' R (V.str (dotted a)) (some (.ref (L i))) := by
 obtain ⟨kvs, hk, _, hv⟩ := h.dk
 have := lD.k (k := .inr (dotted a)) (s _ _ hk)
 rw [hv i a hi ha] at this
 exact this
def ut (ds : List Q4) (m : Nat) (r : bW) : Prop := ∃ d, ds[m]? = some d ∧ GoodR r ∧ r.so = d.so ∧ r.nm = d.nm ∧ (d.so < 5 → r.ad = d.ad ∧ r.wd = d.wd)
def lC (ds : List Q4) (rr : List bW) : Prop := rr.length = ds.length ∧ ∀ (m : Nat) r, rr[m]? = some r → ut ds m r
def Bl (K : PySem.W.Frag) : Sp := fun vs H Q _ => ∃ (S la lw : Addr) (ns : List Int) (as : List (List Str)) (ws : List Str), vs = [.ref S, .ref la, .ref lw] ∧ SqL K H S (ns.map V.int) ∧ H la = some (.lst ((as.map dotted).map V.str)) ∧ as ≠ [] ∧ bK as ∧ H lw = some (.lst (ws.map V.str)) ∧ ws.length = 8 ∧ (∀ w ∈ ws, cX w) ∧
 ∀ R H' L rs, az H H' → DictAt H H' R as as.length L rs → di as rs → Q (.ref R) H'
def zz (C : Nat → Addr) : Sp := fun vs H Q _ => ∃ (H0 : Hp) (R la : Addr) (as : List (List Str)) (L : Nat → Addr) (rs : Nat → List Q4), vs = [.ref la, .ref R] ∧ H la = some (.lst ((as.map dotted).map V.str)) ∧ bK as ∧ DictAt H0 H R as as.length L rs ∧ di as rs ∧
 ∀ d H1 xs ps, az H H1 → H1 d = none → o9 C H1 xs ps → adS ps = as.map dotted → bO ps → (∀ (i : Nat) p, ps[i]? = some p → as[i]? = some p.ad ∧ lC (rs i) p.rs) → Q (.ref d) (upd H1 d (.lst xs))
def wO (K : PySem.W.Frag) : Sp := fun vs H Q _ => ∃ (S : Addr) (ns : List Int), vs = [.ref S] ∧ SqL K H S (ns.map V.int) ∧
 ∀ (p lw la R : Addr) (ws : List Str) (as : List (List Str)) L rs H1 H', H' p = some (.tup [.ref lw, .ref la, .ref R]) → az H H' → H' lw = some (.lst (ws.map V.str)) → ws.length = 8 → (∀ w ∈ ws, cX w) → H' la = some (.lst ((as.map dotted).map V.str)) → as ≠ [] → bK as → DictAt H1 H' R as as.length L rs → di as rs → Q (.ref p) H'
structure vD (as : List (List Str)) (p : bD) : Prop where
 ok : DN p
 cl : ∀ r ∈ p.rs, r.nm ≠ "" → dotted p.ad ++ "." ++ r.nm ∉ as.map dotted
theorem Hv {as : List (List Str)} {ps : List bD} (hl : ps.length = as.length) (h : ∀ (i : Nat) p, ps[i]? = some p → as[i]? = some p.ad) : adS ps = as.map dotted := by
 unfold adS
 apply List.ext_getElem
 ·simp [hl]
 ·intro i h1 h2
  have hi : i < ps.length := by simpa using h1
  have hj : i < as.length := by omega
  have := h i _ (List.getElem?_eq_getElem hi)
  rw [List.getElem?_eq_getElem hj] at this
  simp [Option.some.inj this]
theorem DX {as : List (List Str)} {ps : List bD} (g : bK as) (hl : ps.length = as.length) (e : adS ps = as.map dotted) (h : ∀ p ∈ ps, p.ad ∈ as ∧ vD as p) : bO ps := by
 refine ⟨by rw [hl]; exact g.hi, fun p hp => (h p hp).2.ok, by rw [e]; exact g.nd, fun p hp => ?_, fun p hp r hr hn => by rw [e]; exact (h p hp).2.cl r hr hn⟩
 rw [e]
 exact (g.up _ (h p hp).1).imp id fun z => List.mem_map.mpr ⟨_, z, rfl⟩
def dM (ys : List Str) : List Str := (List.range ys.length).map fun i => dotted (ys.take (i + 1))
theorem rN (xs : List Str) (b : Str) : dM (xs ++ [b]) = dM xs ++ [dotted (xs ++ [b])] := by
 unfold dM
 rw [List.length_append, List.length_singleton, List.range_succ, List.map_append]
 congr 1
 ·refine List.map_congr_left fun i hi => ?_
  have := List.mem_range.mp hi
  rw [List.take_append_of_le_length (by omega)]
 ·show [dotted ((xs ++ [b]).take (xs.length + 1))] = _
  rw [List.take_of_length_le (by simp)]
theorem gW (ys : List Str) : (dM ys).length = ys.length := by unfold dM; rw [List.length_map, List.length_range]
def mz (z : Str) : List Str := dM (Txt.split z ("." : Str))
theorem lY {ys : List Str} (g : cO ys) : mz (dotted ys) = dM ys := by
 unfold mz
 rw [dq ys g.lo g.nm]
def dR (r : bW) : List Str := (dw r).flatMap fun ad => mz ad ++ (if r.so = 4 then [ad ++ "." ++ r.wd] else [])
def linked (p : bD) : List Str := jK p.ad :: p.rs.flatMap dR
theorem t8 {r : bW} (g : GoodR r) : (dR r).length ≤ 4 := by
 unfold dR dw
 obtain ⟨ys, gy, e⟩ := g.ad
 by_cases c : r.so = 2 ∨ r.so = 3 ∨ r.so = 4
 ·rw [if_pos c]
  have hp : (mz r.ad).length ≤ 3 := by rw [e, lY gy, gW]; exact gy.hi
  simp only [List.flatMap_cons, List.flatMap_nil, List.append_nil, List.length_append]
  split
  ·show _ + 1 ≤ 4; omega
  ·show _ + 0 ≤ 4; omega
 ·rw [if_neg c]
  exact Nat.zero_le _
theorem zT {rs : List bW} (h : ∀ r ∈ rs, GoodR r) : (rs.flatMap dR).length ≤ 4 * rs.length := by
 induction rs with
 | nil => simp
 | cons r t ih =>
  rw [List.flatMap_cons, List.length_append, List.length_cons]
  have h1 := t8 (h r (by simp))
  have h2 := ih fun r hr => h r (List.mem_cons_of_mem _ hr)
  omega
theorem oW {α : Type} {f : α → List Str} {rs : List α} {i : Nat} {r : α} (e : rs[i]? = some r) : (rs.take (i + 1)).flatMap f = (rs.take i).flatMap f ++ f r := by
 rw [List.take_succ, e, List.flatMap_append]
 simp
theorem m5 (y : Str) (zs : List Str) : inV (.str y) (zs.map V.str) = decide (y ∈ zs) := by
 by_cases h : y ∈ zs
 ·rw [decide_eq_true h]; exact pq (List.mem_map.mpr ⟨y, h, rfl⟩)
 ·rw [decide_eq_false h]
  exact yh fun v hv => by
   obtain ⟨z, hz, rfl⟩ := List.mem_map.mp hv
   exact ⟨z, rfl, fun e => h (e ▸ hz)⟩
theorem yR (zs ls : List Str) : (zs.map V.str).filter (fun v => inV v (ls.map V.str)) = (zs.filter fun y => decide (y ∈ ls)).map V.str := by
 rw [dB]
 congr 1
 exact List.filter_congr fun y _ => m5 y ls
def iu (d : Q4) : List Str := (if d.so = 2 ∨ d.so = 3 ∨ d.so = 4 then mz d.ad else []) ++ (if d.so = 4 then [d.ad ++ "." ++ d.wd] else [])
def oF (a : List Str) : List Str := if a.dropLast = [] then [] else [dotted a.dropLast]
def mX (a : List Str) (ds : List Q4) : List Str := oF a ++ ds.flatMap iu
theorem JL {d : Q4} (g : G4 d.so d.nm d.ad d.wd) : (iu d).length ≤ 4 := by
 unfold iu
 rw [List.length_append]
 have h1 : (if d.so = 2 ∨ d.so = 3 ∨ d.so = 4 then mz d.ad else []).length ≤ 3 := by
  split
  ·rcases g.ha with ⟨_, z⟩ | ⟨ys, gy, e, _⟩
   ·omega
   ·rw [e, lY gy, gW]; exact gy.hi
  ·simp
 have h2 : (if d.so = 4 then [d.ad ++ "." ++ d.wd] else []).length ≤ 1 := by split <;> simp
 omega
theorem Al {ds : List Q4} (h : ∀ d ∈ ds, G4 d.so d.nm d.ad d.wd) : (ds.flatMap iu).length ≤ 4 * ds.length := by
 induction ds with
 | nil => simp
 | cons r t ih =>
  rw [List.flatMap_cons, List.length_append, List.length_cons]
  have h1 := JL (h r (by simp))
  have h2 := ih fun r hr => h r (List.mem_cons_of_mem _ hr)
  omega
theorem Bw (a : List Str) : (oF a).length ≤ 1 := by unfold oF; split <;> simp
theorem Aa {ds : List Q4} {m : Nat} {r : bW} (h : ut ds m r) : ∃ d, ds[m]? = some d ∧ dR r = iu d := by
 obtain ⟨d, ed, _, e1, _, e2⟩ := h
 refine ⟨d, ed, ?_⟩
 unfold dR iu dw
 rw [e1]
 by_cases c : d.so = 2 ∨ d.so = 3 ∨ d.so = 4
 ·rw [if_pos c, if_pos c]
  obtain ⟨e3, e4⟩ := e2 (by omega)
  rw [e3, e4]
  simp
 ·rw [if_neg c, if_neg c, if_neg (by omega)]
  simp
theorem yx {ds : List Q4} {rr : List bW} (h : lC ds rr) : rr.flatMap dR = ds.flatMap iu := by
 rw [List.flatMap_def, List.flatMap_def]
 congr 1
 apply List.ext_getElem
 ·simp [h.1]
 ·intro i h1 h2
  have hi : i < rr.length := by simpa using h1
  obtain ⟨d, ed, e⟩ := Aa (h.2 i _ (List.getElem?_eq_getElem hi))
  have hd := (List.getElem?_eq_some_iff.mp ed)
  simp [e, hd.2]
theorem xK {p : bD} {ds : List Q4} {y : Str} (h : lC ds p.rs) (hy : y ≠ "") : y ∈ linked p ↔ y ∈ mX p.ad ds := by
 unfold linked mX jK oF
 rw [yx h]
 by_cases c : p.ad.dropLast = []
 ·rw [if_pos c, if_pos c, List.nil_append, List.mem_cons]
  exact ⟨fun z => z.resolve_left hy, .inr⟩
 ·rw [if_neg c, if_neg c]
  rfl
theorem Ba {zs ys as : List Str} {p q : Str → Bool} (h1 : zs.Perm as) (h2 : sortedS zs = true) (h3 : ys.Perm (as.filter q)) (h4 : sortedS ys = true) (e : ∀ y ∈ as, p y = q y) : zs.filter p = ys :=
 List.Perm.eq_of_pairwise (fun a b _ _ h1 h2 => jU (List.le_antisymm h1 h2)) ((qx h2).sublist List.filter_sublist) (qx h4) ((h1.filter p).trans (List.Perm.trans (List.Perm.of_eq (List.filter_congr e)) h3.symm))
theorem HH {a : List Str} (g : cO a) : fB ((dM a).map V.str) (some (-2)) (some (-1)) = (oF a).map V.str := by
 obtain ⟨xs, b, rfl⟩ : ∃ xs b, a = xs ++ [b] := ⟨a.dropLast, a.getLast g.lo, (List.dropLast_concat_getLast g.lo).symm⟩
 unfold oF
 rw [List.dropLast_concat, rN]
 by_cases hx : xs = []
 ·subst hx
  rw [if_pos rfl]
  rfl
 ·rw [if_neg hx]
  obtain ⟨zs, c, rfl⟩ : ∃ zs c, xs = zs ++ [c] := ⟨xs.dropLast, xs.getLast hx, (List.dropLast_concat_getLast hx).symm⟩
  rw [rN]
  have e : ((dM zs ++ [dotted (zs ++ [c])]) ++ [dotted (zs ++ [c] ++ [b])]).map V.str = (dM zs).map V.str ++ [V.str (dotted (zs ++ [c])), V.str (dotted (zs ++ [c] ++ [b]))] := by simp
  rw [e]
  generalize (dM zs).map V.str = us
  unfold fB
  have h1 : (us ++ [V.str (dotted (zs ++ [c])), V.str (dotted (zs ++ [c] ++ [b]))]).length = us.length + 2 := by simp
  rw [h1]
  have h2 : HT.sIx (us.length + 2) 0 (some (-2)) = us.length := by
   show (if (-2 : Int) < 0 then ((-2 : Int) + ((us.length + 2 : Nat) : Int)).toNat else min (-2 : Int).toNat (us.length + 2)) = _
   rw [if_pos (by decide)]
   omega
  have h3 : HT.sIx (us.length + 2) (us.length + 2) (some (-1)) = us.length + 1 := by
   show (if (-1 : Int) < 0 then ((-1 : Int) + ((us.length + 2 : Nat) : Int)).toNat else min (-1 : Int).toNat (us.length + 2)) = _
   rw [if_pos (by decide)]
   omega
  rw [h2, h3, List.drop_left, show us.length + 1 - us.length = 1 from by omega]
  rfl
theorem yX {so : Nat} (h : so ≤ 5) : inV (V.str (eE so)) dal = decide (so = 2 ∨ so = 3 ∨ so = 4) := by
 rcases six h with rfl | rfl | rfl | rfl | rfl | rfl
 all_goals decide +kernel
def qw : Sp := fun vs H Q _ => ∃ ys : List Str, vs = [.str (dotted ys)] ∧ cO ys ∧ ∀ p H', H p = none → az H H' → H' p = some (.lst ((dM ys).map V.str)) → Q (.ref p) H'
def yS (C : Nat → Addr) : Sp := fun vs H Q _ => ∃ (a t : Addr) (r : bW), vs = [.ref a] ∧ cA C H a t r ∧ GoodR r ∧ ∀ b H', H b = none → az H H' → H' b = some (.lst ((dR r).map V.str)) → Q (.ref b) H'
def zg (C : Nat → Addr) : Sp := fun vs H Q E => ∃ (h l : Addr) (ps : List bD) (z : Str), vs = [.ref h, .str z] ∧ cF C H h l ps ∧ bO ps ∧ z.length ≤ 1000 ∧
 (∀ (i : Nat) p, ps[i]? = some p → dotted p.ad = z → ∀ b H' zs, H b = none → az H H' → zs.Perm (adS ps) → sortedS zs = true → H' b = some (.lst ((zs.filter fun y => decide (y ∈ linked p)).map V.str)) → Q (.ref b) H') ∧ (z ∉ adS ps → ∀ x H', az H H' → jC C H' x z → E (.ref x) none H')
def rA : Sp := fun vs H Q _ => ∃ (H0 : Hp) (la R : Addr) (as : List (List Str)) (L : Nat → Addr) (rs : Nat → List Q4) (i : Nat) (a : List Str), vs = [.str (dotted a), .ref la, .ref R] ∧ H la = some (.lst ((as.map dotted).map V.str)) ∧ bK as ∧ DictAt H0 H R as as.length L rs ∧ di as rs ∧ as[i]? = some a ∧
 ∀ b H' zs, H b = none → az H H' → zs.Perm ((as.map dotted).filter fun y => decide (y ∈ mX a (rs i))) → sortedS zs = true → H' b = some (.lst (zs.map V.str)) → Q (.ref b) H'
theorem jo : ∀ {xs zs : List Str}, xs.Nodup → (∀ x ∈ xs, x ∈ zs) → xs.length ≤ zs.length
 | [], _, _, _ => Nat.zero_le _
 | x :: xs, zs, h, hs => by
  have hx : x ∈ zs := hs x (by simp)
  have h2 : x ∉ xs := (List.nodup_cons.mp h).1
  have := jo (zs := zs.erase x) (List.nodup_cons.mp h).2 fun y hy => (List.mem_erase_of_ne (fun e : y = x => h2 (e ▸ hy))).mpr (hs y (List.mem_cons_of_mem _ hy))
  rw [List.length_erase_of_mem hx] at this
  have h3 := List.length_pos_of_mem hx
  rw [List.length_cons]
  omega
structure Gr (zs : List Str) (nb : Str → List Str) : Prop where
 hi : zs.length ≤ 12
 nd : zs.Nodup
 cl : ∀ z ∈ zs, ∀ y ∈ nb z, y ∈ zs
 nn : ∀ z ∈ zs, (nb z).Nodup
theorem Gr.len {zs : List Str} {nb : Str → List Str} (g : Gr zs nb) {z : Str} (h : z ∈ zs) : (nb z).length ≤ 12 := Nat.le_trans (jo (g.nn z h) (g.cl z h)) g.hi
inductive Rch (nb : Str → List Str) (a : Str) : Str → Prop
 | one {y : Str} : y ∈ nb a → Rch nb a y
 | more {x y : Str} : Rch nb a x → y ∈ nb x → Rch nb a y
theorem Rch.mem {zs : List Str} {nb : Str → List Str} (g : Gr zs nb) {a y : Str} (ha : a ∈ zs) (h : Rch nb a y) : y ∈ zs := by
 induction h with
 | one h => exact g.cl a ha _ h
 | more _ h ih => exact g.cl _ ih _ h
theorem Rch.in {nb : Str → List Str} {a y : Str} {fs : List Str} (h1 : ∀ y ∈ nb a, y ∈ fs) (h2 : ∀ x ∈ fs, ∀ y ∈ nb x, y ∈ fs) (h : Rch nb a y) : y ∈ fs := by
 induction h with
 | one h => exact h1 _ h
 | more _ h ih => exact h2 _ ih _ h
theorem Rch.of_eq {zs : List Str} {nb nc : Str → List Str} (g : Gr zs nb) {a y : Str} (ha : a ∈ zs) (e : ∀ z ∈ zs, nb z = nc z) (h : Rch nb a y) : Rch nc a y := by
 induction h with
 | one h => exact .one (e a ha ▸ h)
 | more h1 h ih => exact .more ih (e _ (h1.mem g ha) ▸ h)
def gk (H : Hp) (R : Addr) (zs : List Str) (nb : Str → List Str) : Prop := ∃ kvs : List (Key × V), H R = some (.dK kvs) ∧ kvs.map (·.1) = zs.map Sum.inr ∧ ∀ z ∈ zs, ∃ l, gq kvs (.inr z) = some (.ref l) ∧ H l = some (.lst ((nb z).map V.str))
theorem gk.same {H H' : Hp} {R : Addr} {zs : List Str} {nb : Str → List Str} (h : gk H R zs nb) (s : az H H') : gk H' R zs nb := by
 obtain ⟨kvs, h1, h2, h3⟩ := h
 exact ⟨kvs, s _ _ h1, h2, fun z hz => by obtain ⟨l, e1, e2⟩ := h3 z hz; exact ⟨l, e1, s _ _ e2⟩⟩
theorem gk.get {H : Hp} {R : Addr} {zs : List Str} {nb : Str → List Str} {z : Str} (h : gk H R zs nb) (hz : z ∈ zs) : ∃ l, lD H R (V.str z) (some (.ref l)) ∧ H l = some (.lst ((nb z).map V.str)) := by
 obtain ⟨kvs, h1, h2, h3⟩ := h
 obtain ⟨l, e1, e2⟩ := h3 z hz
 have := lD.k (k := .inr z) h1
 rw [e1] at this
 exact ⟨l, this, e2⟩
theorem gk.gets {H : Hp} {R : Addr} {zs : List Str} {nb : Str → List Str} {z : Str} (h : gk H R zs nb) (hz : z ∈ zs) : ∃ l, (∀ H', az H H' → lD H' R (V.str z) (some (.ref l))) ∧ H l = some (.lst ((nb z).map V.str)) := by
 obtain ⟨kvs, h1, h2, h3⟩ := h
 obtain ⟨l, e1, e2⟩ := h3 z hz
 refine ⟨l, fun H' s => ?_, e2⟩
 have := lD.k (k := .inr z) (s _ _ h1)
 rw [e1] at this
 exact this
theorem has_key {kvs : List (Key × V)} {fs : List Str} (h : kvs.map (·.1) = fs.map Sum.inr) (x : Str) : (gq kvs (.inr x)).isSome = decide (x ∈ fs) := by
 rw [← ig]
 by_cases hx : x ∈ fs
 ·rw [decide_eq_true hx, List.any_eq_true]
  have : (Sum.inr x : Key) ∈ kvs.map (·.1) := by rw [h]; exact List.mem_map.mpr ⟨x, hx, rfl⟩
  obtain ⟨kv, hkv, e⟩ := List.mem_map.mp this
  exact ⟨kv, hkv, decide_eq_true e⟩
 ·rw [decide_eq_false hx, List.any_eq_false]
  intro kv hkv k
  have : kv.1 ∈ kvs.map (·.1) := List.mem_map.mpr ⟨kv, hkv, rfl⟩
  rw [of_decide_eq_true k, h] at this
  obtain ⟨y, hy, e⟩ := List.mem_map.mp this
  exact hx (Sum.inr.inj e ▸ hy)
theorem Fy {kvs : List (Key × V)} {fs : List Str} (h : kvs.map (·.1) = fs.map Sum.inr) {x : Str} (hx : x ∉ fs) (v : V) : putK kvs (.inr x) v = kvs ++ [(.inr x, v)] := by
 have := has_key h x
 rw [decide_eq_false hx, ← ig] at this
 unfold putK
 rw [if_neg (by rw [this]; decide)]
theorem rG {kvs : List (Key × V)} {fs : List Str} (h : kvs.map (·.1) = fs.map Sum.inr) {x : Str} (hx : x ∉ fs) (v : V) : (putK kvs (.inr x) v).map (·.1) = (fs ++ [x]).map Sum.inr := by
 rw [Fy h hx, List.map_append, List.map_append, h]
 rfl
theorem qO {kvs : List (Key × V)} {fs : List Str} (h : kvs.map (·.1) = fs.map Sum.inr) : kvs.length = fs.length := by have := congrArg List.length h; simpa using this
theorem gk.more {H : Hp} {R l : Addr} {zs : List Str} {nb : Str → List Str} {z : Str} (h : gk H R zs nb) (hz : z ∉ zs) (hl : H l = some (.lst ((nb z).map V.str))) :
  ∃ kvs, H R = some (.dK kvs) ∧ kvs.length = zs.length ∧ gk (upd H R (.dK (putK kvs (.inr z) (.ref l)))) R (zs ++ [z]) nb := by
 obtain ⟨kvs, h1, h2, h3⟩ := h
 have off : ∀ b xs, H b = some (.lst xs) → (upd H R (.dK (putK kvs (.inr z) (.ref l)))) b = some (.lst xs) := fun b xs e => by rw [aG (eX e h1 (by intro z; cases z))]; exact e
 refine ⟨kvs, h1, qO h2, _, ao, rG h2 hz _, fun y hy => ?_⟩
 by_cases e : y = z
 ·subst e
  exact ⟨l, by rw [nG, if_pos rfl], off _ _ hl⟩
 ·have hy2 : y ∈ zs := by
   rcases List.mem_append.mp hy with k | k
   ·exact k
   ·exact absurd (List.mem_singleton.mp k) e
  obtain ⟨l2, e1, e2⟩ := h3 y hy2
  exact ⟨l2, by rw [nG, if_neg (fun k => e (Sum.inr.inj k))]; exact e1, off _ _ e2⟩
theorem gk.but {H : Hp} {R : Addr} {zs : List Str} {nb nc : Str → List Str} (h : gk H R zs nb) (e : ∀ z ∈ zs, nb z = nc z) : gk H R zs nc := by
 obtain ⟨kvs, h1, h2, h3⟩ := h
 exact ⟨kvs, h1, h2, fun z hz => by rw [← e z hz]; exact h3 z hz⟩
def LK (H : Hp) (R A F : Addr) (a : Str) (zs : List Str) (nb : Str → List Str) (m : Nat) (σ : L2.St) (H' : Hp) : Prop := ∃ (as fs : List Str) (kvs : List (Key × V)) (v : Option V), σ = [some (.ref R), some (.str a), some (.ref A), some (.ref F), v] ∧ az H H' ∧
 H' A = some (.lst (as.map V.str)) ∧ H' F = some (.dK kvs) ∧ kvs.map (·.1) = fs.map Sum.inr ∧ fs.Nodup ∧ (∀ x ∈ as, Rch nb a x) ∧ (∀ x ∈ fs, Rch nb a x) ∧ (∀ y ∈ nb a, y ∈ as ∨ y ∈ fs) ∧ (∀ x ∈ fs, ∀ y ∈ nb x, y ∈ as ∨ y ∈ fs) ∧ as.length ≤ 12 * (1 + fs.length) ∧ m = 13 * (zs.length - fs.length) + as.length
def ue : Sp := fun vs H Q _ => ∃ (R : Addr) (a : Str) (zs : List Str) (nb : Str → List Str), vs = [.ref R, .str a] ∧ gk H R zs nb ∧ Gr zs nb ∧ a ∈ zs ∧ ∀ l H' ys, H l = none → az H H' → ys.Nodup → sortedS ys = true → (∀ y, y ∈ ys ↔ Rch nb a y) → H' l = some (.lst (ys.map V.str)) → Q (.ref l) H'
def lN (ps : List bD) (zs : List Str) (z : Str) : List Str := match ps.find? fun p => decide (dotted p.ad = z) with | some p => zs.filter fun y => decide (y ∈ linked p) | none => []
theorem zy {ps : List bD} (nd : (adS ps).Nodup) {i : Nat} {p : bD} (h : ps[i]? = some p) (zs : List Str) : lN ps zs (dotted p.ad) = zs.filter fun y => decide (y ∈ linked p) := by
 have : ps.find? (fun q => decide (dotted q.ad = dotted p.ad)) = some p := by
  cases e : ps.find? (fun q => decide (dotted q.ad = dotted p.ad)) with
  | none => exact absurd (decide_eq_true rfl) (List.find?_eq_none.mp e p (List.mem_of_getElem? h))
  | some q =>
   have h1 : dotted q.ad = dotted p.ad := by simpa using List.find?_some e
   obtain ⟨j, hj, ej⟩ := List.getElem_of_mem (List.mem_of_find?_eq_some e)
   have e1 : (adS ps)[i]? = some (dotted p.ad) := by unfold adS; rw [List.getElem?_map, h]; rfl
   have e2 : (adS ps)[j]? = some (dotted q.ad) := by unfold adS; rw [List.getElem?_map, List.getElem?_eq_getElem hj, ej]; rfl
   have : i = j := (List.getElem?_inj (List.getElem?_eq_some_iff.mp e1).1 nd).mp (by rw [e1, e2, h1])
   subst this
   rw [List.getElem?_eq_getElem hj, ej] at h
   exact h
 unfold lN
 rw [this]
theorem GC {ps : List bD} (g : bO ps) {zs : List Str} (h : zs.Perm (adS ps)) : Gr zs (lN ps zs) := by
 have hn : zs.Nodup := h.nodup_iff.mpr g.nd
 refine ⟨by rw [h.length_eq]; unfold adS; rw [List.length_map]; exact g.hi, hn, fun z _ y hy => ?_, fun z _ => ?_⟩
 ·unfold lN at hy
  split at hy
  ·exact (List.mem_filter.mp hy).1
  ·cases hy
 ·unfold lN
  split
  ·exact hn.filter _
  ·exact List.nodup_nil
def Bg (C : Nat → Addr) : Sp := fun vs H Q _ => ∃ (h l : Addr) (ps : List bD), vs = [.ref h] ∧ cF C H h l ps ∧ bO ps ∧ ∀ R H' zs, zs.Perm (adS ps) → sortedS zs = true → H R = none → az H H' → gk H' R zs (lN ps zs) → Q (.ref R) H'
def GX (C : Nat → Addr) : Sp := fun vs H Q E => ∃ (h l : Addr) (ps : List bD) (z : Str), vs = [.ref h, .str z] ∧ cF C H h l ps ∧ bO ps ∧ z.length ≤ 1000 ∧ (z ∈ adS ps → Pur .non H Q) ∧ (z ∉ adS ps → ∀ x H', az H H' → jC C H' x z → E (.ref x) none H')
def zA (C : Nat → Addr) : Sp := fun vs H Q E => ∃ (h l : Addr) (ps : List bD) (z : Str), vs = [.ref h, .str z] ∧ cF C H h l ps ∧ bO ps ∧ z.length ≤ 1000 ∧
 (z ∈ adS ps → ∀ l H' zs ys, zs.Perm (adS ps) → sortedS zs = true → H l = none → az H H' → ys.Nodup → sortedS ys = true → (∀ y, y ∈ ys ↔ Rch (lN ps zs) z y) → H' l = some (.lst (ys.map V.str)) → Q (.ref l) H') ∧ (z ∉ adS ps → ∀ x H', az H H' → jC C H' x z → E (.ref x) none H')
structure il (nb : Str → List Str) (one other : Str) (w : List Str) : Prop where
 lo : 2 ≤ w.length
 hi : w.length ≤ 13
 fst : w[0]? = some one
 lst : w[w.length - 1]? = some other
 st : ∀ (k : Nat) x y, w[k]? = some x → w[k + 1]? = some y → y ∈ nb x
 nr : ∀ (k : Nat) y, 1 ≤ k → w[k]? = some y → y ∉ (w.take k).drop 1
 nf : ∀ (k : Nat), 1 ≤ k → w[k]? = some one → k = w.length - 1
def Bm (C : Nat → Addr) : Sp := fun vs H Q E => ∃ (h l : Addr) (ps : List bD) (one other : Str), vs = [.ref h, .str one, .str other] ∧ cF C H h l ps ∧ bO ps ∧ one.length ≤ 1000 ∧ other.length ≤ 1000 ∧
 (one ∈ adS ps → other ∈ adS ps → ∀ H' zs, zs.Perm (adS ps) → sortedS zs = true → az H H' → (¬ Rch (lN ps zs) one other → Q .non H') ∧ ∀ l w, H l = none → il (lN ps zs) one other w → H' l = some (.lst (w.map V.str)) → Q (.ref l) H') ∧
 (one ∉ adS ps → ∀ x H', az H H' → jC C H' x one → E (.ref x) none H') ∧ (one ∈ adS ps → other ∉ adS ps → ∀ x H', az H H' → jC C H' x other → E (.ref x) none H')
structure lJ (nb : Str → List Str) (one other : Str) (fs w : List Str) : Prop where
 fst : w[0]? = some one
 st : ∀ (k : Nat) x y, w[k]? = some x → w[k + 1]? = some y → y ∈ nb x
 nd : w.Nodup
 se : ∀ x ∈ w, x ∈ fs
 no : ∀ (k : Nat) y, 1 ≤ k → w[k]? = some y → y ≠ other
theorem lJ.mono {nb : Str → List Str} {one other : Str} {fs gs w : List Str} (h : lJ nb one other fs w) (s : ∀ x ∈ fs, x ∈ gs) : lJ nb one other gs w := ⟨h.fst, h.st, h.nd, fun x hx => s x (h.se x hx), h.no⟩
theorem lW {w : List Str} {x y : Str} {k : Nat} (h : (w ++ [x])[k]? = some y) : (k < w.length ∧ w[k]? = some y) ∨ (k = w.length ∧ y = x) := by
 rcases Nat.lt_or_ge k w.length with z | z
 ·rw [List.getElem?_append_left z] at h; exact .inl ⟨z, h⟩
 ·rw [List.getElem?_append_right z] at h
  have hk : k - w.length = 0 := by
   have := (List.getElem?_eq_some_iff.mp h).1
   simp at this
   omega
  rw [hk] at h
  cases h
  exact .inr ⟨by omega, rfl⟩
theorem zc {nb : Str → List Str} {w : List Str} {x y : Str} (hl : w.getLast? = some x) (hy : y ∈ nb x) (st : ∀ (k : Nat) x y, w[k]? = some x → w[k + 1]? = some y → y ∈ nb x) : ∀ (k : Nat) a b, (w ++ [y])[k]? = some a → (w ++ [y])[k + 1]? = some b → b ∈ nb a := fun k a b e1 e2 => by
 rcases lW e2 with ⟨z, e3⟩ | ⟨z, rfl⟩
 ·rcases lW e1 with ⟨_, e4⟩ | ⟨z2, _⟩
  ·exact st k a b e4 e3
  ·omega
 ·rcases lW e1 with ⟨z2, e4⟩ | ⟨z2, _⟩
  ·rw [List.getLast?_eq_getElem?, ← z, Nat.add_sub_cancel, e4] at hl
   cases hl
   exact hy
  ·omega
theorem lJ.more {nb : Str → List Str} {one other : Str} {fs w : List Str} {x y : Str} (h : lJ nb one other fs w) (hl : w.getLast? = some x) (hy : y ∈ nb x) (hn : y ∉ fs) (ho : y ≠ other) : lJ nb one other (fs ++ [y]) (w ++ [y]) := by
 have h0 : 0 < w.length := by have := (List.getElem?_eq_some_iff.mp h.fst).1; exact this
 refine ⟨by rw [List.getElem?_append_left h0]; exact h.fst, zc hl hy h.st, ?_, fun z hz => ?_, fun k z k1 e => ?_⟩
 ·exact nT h.nd fun z => hn (h.se y z)
 ·rcases List.mem_append.mp hz with k | k
  ·exact List.mem_append_left _ (h.se z k)
  ·exact List.mem_append_right _ k
 ·rcases lW e with ⟨_, e3⟩ | ⟨_, rfl⟩
  ·exact h.no k z k1 e3
  ·exact ho
theorem lJ.walk {nb : Str → List Str} {one other : Str} {zs fs w : List Str} {x : Str} (h : lJ nb one other fs w) (hl : w.getLast? = some x) (hy : other ∈ nb x) (hz : ∀ y ∈ fs, y ∈ zs) (h12 : zs.length ≤ 12) : il nb one other (w ++ [other]) := by
 have h0 : 0 < w.length := (List.getElem?_eq_some_iff.mp h.fst).1
 have hw : w.length ≤ 12 := Nat.le_trans (jo h.nd fun y hy => hz y (h.se y hy)) h12
 have hle : (w ++ [other]).length = w.length + 1 := by simp
 refine ⟨by omega, by omega, by rw [List.getElem?_append_left h0]; exact h.fst, by rw [hle, Nat.add_sub_cancel, List.getElem?_append_right (Nat.le_refl _), Nat.sub_self]; rfl, zc hl hy h.st, fun k y k1 e hm => ?_, fun k k1 e => ?_⟩
 ·rcases lW e with ⟨z, e3⟩ | ⟨z, rfl⟩
  ·rw [List.take_append_of_le_length (by omega)] at hm
   have hm2 := List.mem_of_mem_drop hm
   obtain ⟨j, hj, ej⟩ := List.getElem_of_mem hm2
   have hjk : j < k := Nat.lt_of_lt_of_le hj (List.length_take_le k w)
   have e4 : w[j]? = some y := by
    have := List.getElem?_eq_getElem hj
    rw [ej, List.getElem?_take] at this
    simpa [hjk] using this
   have := (List.getElem?_inj (by omega) h.nd).mp (e4.trans e3.symm)
   omega
  ·rw [z, List.take_append_of_le_length (Nat.le_refl _), List.take_length] at hm
   obtain ⟨j, hj, ej⟩ := List.getElem_of_mem hm
   rw [List.getElem_drop] at ej
   have hj2 : 1 + j < w.length := by rw [List.length_drop] at hj; omega
   exact h.no (1 + j) y (by omega) (by rw [List.getElem?_eq_getElem hj2, ej]) rfl
 ·rcases lW e with ⟨z, e3⟩ | ⟨z, _⟩
  ·have := (List.getElem?_inj (by omega) h.nd).mp (h.fst.trans e3.symm)
   omega
  ·omega
def zZ (as : List (List Str)) (rs : Nat → List Q4) (nb : Str → List Str) : Prop := ∀ (i : Nat) a, as[i]? = some a → (nb (dotted a)).Perm ((as.map dotted).filter fun y => decide (y ∈ mX a (rs i))) ∧ sortedS (nb (dotted a)) = true
theorem zZ.gr {as : List (List Str)} {rs : Nat → List Q4} {nb : Str → List Str} (g : bK as) (h : zZ as rs nb) : Gr (as.map dotted) nb := by
 have at_ : ∀ z ∈ as.map dotted, ∃ (i : Nat) (a : List Str), as[i]? = some a ∧ z = dotted a := fun z hz => by
  obtain ⟨a, ha, rfl⟩ := List.mem_map.mp hz
  obtain ⟨i, hi, e⟩ := List.getElem_of_mem ha
  exact ⟨i, a, by rw [List.getElem?_eq_getElem hi, e], rfl⟩
 refine ⟨by rw [List.length_map]; exact g.hi, g.nd, fun z hz y hy => ?_, fun z hz => ?_⟩
 ·obtain ⟨i, a, ha, rfl⟩ := at_ z hz
  exact (List.mem_filter.mp ((h i a ha).1.mem_iff.mp hy)).1
 ·obtain ⟨i, a, ha, rfl⟩ := at_ z hz
  exact (h i a ha).1.nodup_iff.mpr (g.nd.filter _)
theorem xx {as : List (List Str)} {rs : Nat → List Q4} {nb : Str → List Str} {ps : List bD} (g : bK as) (h : zZ as rs nb) (hk : bO ps) (ead : adS ps = as.map dotted) (hof : ∀ (i : Nat) p, ps[i]? = some p → as[i]? = some p.ad ∧ lC (rs i) p.rs) {zs : List Str} (h1 : zs.Perm (adS ps)) (h2 : sortedS zs = true) : ∀ z ∈ as.map dotted, lN ps zs z = nb z := fun z hz => by
 obtain ⟨a, ha, rfl⟩ := List.mem_map.mp hz
 obtain ⟨i, hi, e⟩ := List.getElem_of_mem ha
 have ei : as[i]? = some a := by rw [List.getElem?_eq_getElem hi, e]
 have hl : ps.length = as.length := by have := congrArg List.length ead; unfold adS at this; simpa using this
 have ep : ps[i]? = some (ps[i]'(by omega)) := List.getElem?_eq_getElem (by omega)
 obtain ⟨e1, e2⟩ := hof i _ ep
 rw [ei] at e1
 have e3 : a = (ps[i]'(by omega)).ad := Option.some.inj e1
 obtain ⟨n1, n2⟩ := h i a ei
 rw [e3] at n1 n2 ⊢
 rw [zy hk.nd ep]
 refine Ba (as := as.map dotted) (by rw [← ead]; exact h1) h2 n1 n2 fun y hy => ?_
 obtain ⟨b, hb, rfl⟩ := List.mem_map.mp hy
 exact decide_eq_decide.mpr (xK e2 (tQ (g.ok b hb)))
def Qf (zs : List Str) (nb bh : Str → List Str) : Prop := ∀ z ∈ zs, (bh z).Nodup ∧ ∀ y, y ∈ bh z ↔ Rch nb z y
def wy : Sp := fun vs H Q _ => ∃ (H0 : Hp) (la R : Addr) (as : List (List Str)) (L : Nat → Addr) (rs : Nat → List Q4), vs = [.ref la, .ref R] ∧ H la = some (.lst ((as.map dotted).map V.str)) ∧ bK as ∧ DictAt H0 H R as as.length L rs ∧ di as rs ∧
 ∀ B H' nb bh, H B = none → az H H' → zZ as rs nb → gk H' B (as.map dotted) bh → Qf (as.map dotted) nb bh → Q (.ref B) H'
def xm : Sp := fun vs H Q _ => ∃ (H0 : Hp) (l la R : Addr) (one other : Str) (w : List Str) (as : List (List Str)) (L : Nat → Addr) (rs : Nat → List Q4) (nb : Str → List Str), vs = [.ref l, .str one, .str other, .ref la, .ref R] ∧ H l = some (.lst (w.map V.str)) ∧ il nb one other w ∧ one ∈ as.map dotted ∧ H la = some (.lst ((as.map dotted).map V.str)) ∧ bK as ∧ DictAt H0 H R as as.length L rs ∧ di as rs ∧ zZ as rs nb ∧ Pur (.bl true) H Q
def zj (C : Nat → Addr) : Sp := fun vs H Q _ => ∃ (h l : Addr) (ps : List bD) (one other due : Str), vs = [.ref h, .str one, .str other, .str due] ∧ cF C H h l ps ∧ bO ps ∧ one.length ≤ 1000 ∧ other.length ≤ 1000 ∧ ((one ∉ adS ps ∧ due = one) ∨ (one ∈ adS ps ∧ other ∉ adS ps ∧ due = other)) ∧ Pur (.bl true) H Q
def DQ (K : PySem.W.Frag) : Sp := fun vs H Q _ => ∃ (S lw : Addr) (ns : List Int) (ws : List Str), vs = [.ref S, .ref lw] ∧ SqL K H S (ns.map V.int) ∧ H lw = some (.lst (ws.map V.str)) ∧ ws.length = 8 ∧ (∀ w ∈ ws, cX w) ∧
 ∀ (p la R : Addr) (as : List (List Str)) L rs H1 H', H' p = some (.tup [.ref la, .ref R]) → az H H' → H' la = some (.lst ((as.map dotted).map V.str)) → as ≠ [] → bK as → DictAt H1 H' R as as.length L rs → di as rs → Q (.ref p) H'
def zF (C : Nat → Addr) : Sp := fun vs H Q _ => ∃ (H0 : Hp) (h l la R : Addr) (ps : List bD) (as : List (List Str)) (L : Nat → Addr) (rs : Nat → List Q4), vs = [.ref h, .ref la, .ref R] ∧ cF C H h l ps ∧ bO ps ∧ adS ps = as.map dotted ∧ (∀ (i : Nat) p, ps[i]? = some p → as[i]? = some p.ad ∧ lC (rs i) p.rs) ∧ as ≠ [] ∧ H la = some (.lst ((as.map dotted).map V.str)) ∧ bK as ∧ DictAt H0 H R as as.length L rs ∧ di as rs ∧ Pur (.bl true) H Q
def Ke (H : Hp) (la R B N : Addr) (v4 : Option V) (a : Str) (zs : List Str) (nb : Str → List Str) (m : Nat) (σ : L2.St) (H' : Hp) : Prop := ∃ (F : Addr) (fs : List Str) (k : Nat), σ = [some (.ref la), some (.ref R), some (.ref B), some (.ref N), v4, some (.ref F), some (.int (k : Int))] ∧ az H H' ∧ H F = none ∧
 H' F = some (.lst (fs.map V.str)) ∧ fs.Nodup ∧ (∀ x ∈ fs, Rch nb a x) ∧ (∀ y ∈ nb a, y ∈ fs) ∧ k ≤ fs.length ∧ (∀ (j : Nat) x, j < k → fs[j]? = some x → ∀ y ∈ nb x, y ∈ fs) ∧ m = 13 - k
structure iB (H : Hp) (Wd Sd : Addr) (one other : Str) (zs : List Str) (nb : Str → List Str) (H' : Hp) (wss : List (List Str)) (fs : List Str) : Prop where
 sm : az H H'
 wd : ∃ xs : List V, H' Wd = some (.lst xs) ∧ xs.length = wss.length ∧ ∀ (i : Nat) w, wss[i]? = some w → ∃ l, xs[i]? = some (.ref l) ∧ H' l = some (.lst (w.map V.str)) ∧ l ≠ Wd
 sd : ∃ kvs : List (Key × V), H' Sd = some (.dK kvs) ∧ kvs.map (·.1) = fs.map Sum.inr
 nd : fs.Nodup
 fz : ∀ x ∈ fs, x ∈ zs
 on : one ∈ fs
 ok : ∀ w ∈ wss, lJ nb one other fs w
def Nh (H : Hp) (h R Wd Sd : Addr) (one other : Str) (zs : List Str) (nb : Str → List Str) (m : Nat) (σ : L2.St) (H' : Hp) : Prop := ∃ (v6 v7 : Option V) (wss : List (List Str)) (fs : List Str), σ = [some (.ref h), some (.str one), some (.str other), some (.ref R), some (.ref Wd), some (.ref Sd), v6, v7] ∧ iB H Wd Sd one other zs nb H' wss fs ∧
 (∀ x ∈ fs, (∃ w ∈ wss, w.getLast? = some x) ∨ ∀ y ∈ nb x, y ≠ other ∧ y ∈ fs) ∧ m = 2 * (zs.length - fs.length) + wss.length ∧ m ≤ 30
theorem iB.same {H : Hp} {Wd Sd : Addr} {one other : Str} {zs : List Str} {nb : Str → List Str} {H' H'' : Hp} {wss : List (List Str)} {fs : List Str} (c : iB H Wd Sd one other zs nb H' wss fs) (s : az H' H'') : iB H Wd Sd one other zs nb H'' wss fs := by
 obtain ⟨sm, ⟨xs, h1, h2, h3⟩, ⟨kvs, h4, h5⟩, a, b, d, e⟩ := c
 exact ⟨sm.trans s, ⟨xs, s _ _ h1, h2, fun i w ew => by obtain ⟨l, e1, e2, e3⟩ := h3 i w ew; exact ⟨l, e1, s _ _ e2, e3⟩⟩, ⟨kvs, s _ _ h4, h5⟩, a, b, d, e⟩
theorem iB.see {H : Hp} {Wd Sd : Addr} {one other : Str} {zs : List Str} {nb : Str → List Str} {H' : Hp} {wss : List (List Str)} {fs : List Str} {y : Str} (c : iB H Wd Sd one other zs nb H' wss fs) (h0 : H Sd = none) (hy : y ∉ fs) (hz : y ∈ zs) :
  ∃ kvs, H' Sd = some (.dK kvs) ∧ kvs.length = fs.length ∧ iB H Wd Sd one other zs nb (upd H' Sd (.dK (putK kvs (.inr y) (.bl true)))) wss (fs ++ [y]) := by
 obtain ⟨sm, ⟨xs, h1, h2, h3⟩, ⟨kvs, h4, h5⟩, a, b, d, e⟩ := c
 have off : ∀ b xs, H' b = some (.lst xs) → (upd H' Sd (.dK (putK kvs (.inr y) (.bl true)))) b = some (.lst xs) := fun b xs e => by rw [aG (eX e h4 (by intro z; cases z))]; exact e
 refine ⟨kvs, h4, qO h5, sm.over h0, ⟨xs, off _ _ h1, h2, fun i w ew => by obtain ⟨l, e1, e2, e3⟩ := h3 i w ew; exact ⟨l, e1, off _ _ e2, e3⟩⟩, ⟨_, ao, rG h5 hy _⟩, nT a hy, fun x hx => ?_, List.mem_append_left _ d, fun w hw => (e w hw).mono fun x hx => List.mem_append_left _ hx⟩
 rcases List.mem_append.mp hx with k | k
 ·exact b x k
 ·rw [List.mem_singleton.mp k]; exact hz
theorem iB.push {H : Hp} {Wd Sd e : Addr} {one other : Str} {zs : List Str} {nb : Str → List Str} {H' : Hp} {wss : List (List Str)} {fs w : List Str} (c : iB H Wd Sd one other zs nb H' wss fs) (h0 : H Wd = none) (he : H' e = some (.lst (w.map V.str))) (hne : e ≠ Wd) (hw : lJ nb one other fs w) :
  ∃ xs, H' Wd = some (.lst xs) ∧ xs.length = wss.length ∧ iB H Wd Sd one other zs nb (upd H' Wd (.lst (xs ++ [.ref e]))) (wss ++ [w]) fs := by
 obtain ⟨sm, ⟨xs, h1, h2, h3⟩, ⟨kvs, h4, h5⟩, a, b, d, f⟩ := c
 refine ⟨xs, h1, h2, sm.over h0, ⟨_, ao, by rw [List.length_append, List.length_append, h2]; rfl, fun i v ev => ?_⟩, ⟨kvs, by rw [aG (eX h4 h1 (by intro z; cases z))]; exact h4, h5⟩, a, b, d, fun v hv => ?_⟩
 ·rcases Nat.lt_or_ge i wss.length with z | z
  ·rw [List.getElem?_append_left z] at ev
   obtain ⟨l, e1, e2, e3⟩ := h3 i v ev
   exact ⟨l, by rw [List.getElem?_append_left (by omega)]; exact e1, by rw [aG e3]; exact e2, e3⟩
  ·rw [List.getElem?_append_right z] at ev
   have hk : i - wss.length = 0 := by
    have := (List.getElem?_eq_some_iff.mp ev).1
    simp at this
    omega
   rw [hk] at ev
   cases ev
   exact ⟨e, by rw [List.getElem?_append_right (by omega), h2, hk]; rfl, by rw [aG hne]; exact he, hne⟩
 ·rcases List.mem_append.mp hv with k | k
  ·exact f v k
  ·rw [List.mem_singleton.mp k]; exact hw
theorem iB.pop {H : Hp} {Wd Sd : Addr} {one other : Str} {zs : List Str} {nb : Str → List Str} {H' : Hp} {wss : List (List Str)} {fs w : List Str} (c : iB H Wd Sd one other zs nb H' (w :: wss) fs) (h0 : H Wd = none) :
  ∃ l xs, H' Wd = some (.lst (.ref l :: xs)) ∧ H' l = some (.lst (w.map V.str)) ∧ l ≠ Wd ∧ iB H Wd Sd one other zs nb (upd H' Wd (.lst xs)) wss fs := by
 obtain ⟨sm, ⟨xs, h1, h2, h3⟩, ⟨kvs, h4, h5⟩, a, b, d, f⟩ := c
 obtain ⟨l, e1, e2, e3⟩ := h3 0 w rfl
 cases xs with
 | nil => cases e1
 | cons v xt =>
  cases e1
  refine ⟨l, xt, h1, e2, e3, sm.over h0, ⟨_, ao, by simpa using h2, fun i v ev => ?_⟩, ⟨kvs, by rw [aG (eX h4 h1 (by intro z; cases z))]; exact h4, h5⟩, a, b, d, fun v hv => f v (List.mem_cons_of_mem _ hv)⟩
  obtain ⟨l2, e4, e5, e6⟩ := h3 (i + 1) v ev
  exact ⟨l2, e4, by rw [aG e6]; exact e5, e6⟩
theorem il.mem {zs : List Str} {nb : Str → List Str} {one other : Str} {w : List Str} (g : Gr zs nb) (h : il nb one other w) (h1 : one ∈ zs) : ∀ (k : Nat) x, w[k]? = some x → x ∈ zs
 | 0, x, e => by rw [h.fst] at e; cases e; exact h1
 | k + 1, x, e => by
  have hk : k < w.length := by have := (List.getElem?_eq_some_iff.mp e).1; omega
  have e2 : w[k]? = some w[k] := List.getElem?_eq_getElem hk
  exact g.cl _ (il.mem g h h1 k _ e2) _ (h.st k _ _ e2 e)
def without (H : Hp) (B : Addr) : Hp := fun b => if b = B then none else H b
theorem yf (H : Hp) (B : Addr) : without H B B = none := by unfold without; rw [if_pos rfl]
theorem nj {H : Hp} {B b : Addr} (h : b ≠ B) : without H B b = H b := by unfold without; rw [if_neg h]
theorem vI (H : Hp) (B : Addr) : az (without H B) H := fun b o e => by
 unfold without at e
 split at e
 ·cases e
 ·exact e
theorem az.without {H H' : Hp} {B : Addr} (s : az H H') (h : H B = none) : az H (Mine.without H' B) := fun b o e => by
 rw [nj (fun z => by rw [z, h] at e; cases e)]
 exact s b o e
theorem gk.without {H : Hp} {R B : Addr} {zs : List Str} {nb : Str → List Str} {kvs : List (Key × V)} (h : gk H R zs nb) (hB : H B = some (.dK kvs)) (hne : R ≠ B) : gk (Mine.without H B) R zs nb := by
 obtain ⟨kvs2, h1, h2, h3⟩ := h
 exact ⟨kvs2, by rw [nj hne]; exact h1, h2, fun z hz => by obtain ⟨l, e1, e2⟩ := h3 z hz; exact ⟨l, e1, by rw [nj (eX e2 hB (by intro z; cases z))]; exact e2⟩⟩
theorem An {x : Str} {l u : Option Int} {n : Nat} (h : n ∈ (Txt.slice x l u).cps.toList) : n ∈ x.cps.toList := by
 unfold Txt.slice at h
 split at h
 ·exact h
 ·simp only [List.mem_filterMap] at h
  obtain ⟨i, _, e⟩ := h
  rw [← Array.getElem?_toList] at e
  exact List.mem_of_getElem? e
theorem xQ {x : Str} (h : x.length ≤ 8) : (Txt.slice x none (some 7)).length ≤ 7 := by
 by_cases k : 7 ≤ x.length
 ·have e := eq_of_beq (slice_closes_to (x := x) (j := 7) ⟨by decide, by rw [Array.length_toList]; exact Int.ofNat_le.mpr k⟩)
  rw [e]
  show (((x.cps.toList.drop (0 : Int).toNat).take (7 - 0 : Int).toNat).toArray).size ≤ 7
  rw [List.size_toArray]
  exact List.length_take_le _ _
 ·exact Nat.le_trans (Txt.slice_le _ _ _) (by omega)
def bR (p : Str) : List (List Str) := (List.range 12).map fun i => [p ++ (⟨#[97 + i]⟩ : Str)]
theorem wG (p : Str) : (bR p).length = 12 := by unfold bR; rw [List.length_map, List.length_range]
theorem nP (p : Str) {i : Nat} (h : i < 12) : (bR p)[i]? = some [p ++ (⟨#[97 + i]⟩ : Str)] := by unfold bR; rw [List.getElem?_map, List.getElem?_range h]; rfl
theorem sI (p : Str) : (bR p).map dotted = (List.range 12).map fun i => p ++ (⟨#[97 + i]⟩ : Str) := by
 unfold bR
 rw [List.map_map]
 exact List.map_congr_left fun i _ => ir _
theorem vK {p : Str} (h1 : ∀ n ∈ p.cps.toList, 97 ≤ n ∧ n ≤ 122) (h2 : p.length ≤ 7) {i : Nat} (h : i < 12) : cX (p ++ (⟨#[97 + i]⟩ : Str)) := by
 have hl : ((⟨#[97 + i]⟩ : Str)).length = 1 := rfl
 refine ⟨by rw [uN, hl]; omega, by rw [uN, hl]; omega, fun n hn => ?_⟩
 rw [cH] at hn
 rcases List.mem_append.mp hn with k | k
 ·exact h1 n k
 ·have : n = 97 + i := by simpa using k
  omega
theorem Ao {p : Str} (h1 : ∀ n ∈ p.cps.toList, 97 ≤ n ∧ n ≤ 122) (h2 : p.length ≤ 7) : bK (bR p) := by
 refine ⟨by rw [wG]; decide, fun a ha => ?_, ?_, fun a ha => ?_⟩
 ·obtain ⟨i, hi, rfl⟩ := List.mem_map.mp ha
  exact zb (vK h1 h2 (List.mem_range.mp hi))
 ·rw [sI]
  refine List.Pairwise.map _ (fun i j hij e => hij ?_) List.nodup_range
  have := congrArg (fun z : Str => z.cps.toList) e
  simp only [cH] at this
  have := List.append_cancel_left this
  simpa using this
 ·obtain ⟨i, hi, rfl⟩ := List.mem_map.mp ha
  exact .inl rfl
theorem yD : (("abcdefghijkl" : Str)).cps.toList = (List.range 12).map fun i => 97 + i := by decide +kernel
theorem Ae (p : Str) : (("abcdefghijkl" : Str)).cps.toList.map (fun c => V.str (p ++ (⟨#[c]⟩ : Str))) = ((bR p).map dotted).map V.str := by
 rw [yD, sI, List.map_map, List.map_map]
 rfl
theorem Fe {p : Str} (h1 : ∀ n ∈ p.cps.toList, 97 ≤ n ∧ n ≤ 122) (h2 : p.length ≤ 7) (z w : Str) : z ++ "." ++ w ∉ (bR p).map dotted := fun hm => by
 rw [sI] at hm
 obtain ⟨i, hi, e⟩ := List.mem_map.mp hm
 refine (vK h1 h2 (List.mem_range.mp hi)).nodot ?_
 rw [e, cH, cH]
 exact List.mem_append_left _ (List.mem_append_right _ (by decide +kernel))
theorem yq {kvs : List (Key × V)} {k : Key} {v : V} (h : (gq kvs k).isSome = true) : (putK kvs k v).length = kvs.length := by
 unfold putK
 rw [if_pos (by rw [ig]; exact h), List.length_map]
theorem DictAt.put {H0 H : Hp} {R b : Addr} {as : List (List Str)} {n m i : Nat} {L : Nat → Addr} {rs : Nat → List Q4} {a : List Str} {ds : List Q4} (nd : (as.map dotted).Nodup) (h : DictAt H0 H R as n L rs) (hb0 : H0 b = none) (hbL : ∀ j, j < n → L j ≠ b) (hb : gA H b ds) (ha : as[i]? = some a) (hm : (i = n ∧ m = n + 1) ∨ (i < n ∧ m = n)) :
  ∀ kvs, H R = some (.dK kvs) → kvs.length ≤ n ∧ DictAt H0 (upd H R (.dK (putK kvs (.inr (dotted a)) (.ref b)))) R as m (fun j => if j = i then b else L j) (fun j => if j = i then ds else rs j) := by
 intro kvs hk
 obtain ⟨r0, l0, ⟨kvs', hk', hl, hv⟩, ts, ap⟩ := h
 rw [hk] at hk'
 cases hk'
 have hT : ∀ ys, H R ≠ some (.tup ys) := fun ys => by rw [hk]; intro z; cases z
 refine ⟨hl, r0, fun j hj => ?_, ⟨_, ao, ?_, fun j c hj hc => ?_⟩, fun j hj => ?_, fun j k hj hk2 e => ?_⟩
 ·by_cases k : j = i
  ·rw [if_pos k]; exact hb0
  ·rw [if_neg k]; exact l0 j (by omega)
 ·rcases hm with ⟨_, rfl⟩ | ⟨hi, rfl⟩
  ·exact Nat.le_trans (gn _ _ _) (Nat.succ_le_succ hl)
  ·rw [yq (by rw [hv i a hi ha]; rfl)]; exact hl
 ·rw [nG]
  by_cases k : j = i
  ·subst k
   rw [ha] at hc
   cases hc
   rw [if_pos rfl, if_pos rfl]
  ·rw [if_neg k, if_neg (fun z => Do nd hc ha k (Sum.inr.inj z))]
   exact hv j c (by omega) hc
 ·by_cases k : j = i
  ·simp only [if_pos k]
   obtain ⟨xs, hx, hn, ht⟩ := hb
   have hbR : b ≠ R := fun z => by rw [z, hk] at hx; cases hx
   exact gA.off (H := H) ⟨xs, hx, hn, ht⟩ hbR hT
  ·simp only [if_neg k]
   obtain ⟨xs, hx, hn, ht⟩ := ts j (by omega)
   have hR : L j ≠ R := fun z => by rw [z, hk] at hx; cases hx
   exact gA.off (H := H) ⟨xs, hx, hn, ht⟩ hR hT
 ·by_cases u : j = i
  ·by_cases v : k = i
   ·omega
   ·simp only [if_pos u, if_neg v] at e
    exact absurd e.symm (hbL k (by omega))
  ·by_cases v : k = i
   ·simp only [if_neg u, if_pos v] at e
    exact absurd e (hbL j (by omega))
   ·simp only [if_neg u, if_neg v] at e
    exact ap j k (by omega) (by omega) e
theorem di.set {as : List (List Str)} {rs : Nat → List Q4} {i : Nat} {a : List Str} {ds : List Q4} (h : di as rs) (hi : as[i]? = some a) (hl : ds.length ≤ 12) (g : ∀ d ∈ ds, G4 d.so d.nm d.ad d.wd) (hc : ∀ d ∈ ds, d.so < 5 → dotted a ++ "." ++ d.nm ∉ as.map dotted) : di as (fun j => if j = i then ds else rs j) := by
 refine ⟨fun j hj => ?_, fun j hj e he => ?_, fun j b hb e he h5 => ?_⟩
 ·by_cases k : j = i
  ·simp only [if_pos k]; exact hl
  ·simp only [if_neg k]; exact h.hi j hj
 ·by_cases k : j = i
  ·simp only [if_pos k] at he; exact g e he
  ·simp only [if_neg k] at he; exact h.g4 j hj e he
 ·by_cases k : j = i
  ·subst k
   rw [hi] at hb
   cases hb
   simp only [if_true] at he
   exact hc e he h5
  ·simp only [if_neg k] at he
   exact h.cl j b hb e he h5
theorem step_at (c : Int) : ∃ st : Int, 0 ≤ st ∧ atI [V.int 1, V.int 5, V.int 7, V.int 11] (pick c 0 4) = some (V.int st) := by
 have h1 := d9 c 0 (m := 4) (by decide)
 have h2 := fP c 0 (m := 4) (by decide)
 generalize pick c 0 4 = k at h1 h2
 rcases (by omega : k = 0 ∨ k = 1 ∨ k = 2 ∨ k = 3) with rfl | rfl | rfl | rfl
 ·exact ⟨1, by decide, bu (j := 0) rfl⟩
 ·exact ⟨5, by decide, bu (j := 1) rfl⟩
 ·exact ⟨7, by decide, bu (j := 2) rfl⟩
 ·exact ⟨11, by decide, bu (j := 3) rfl⟩
theorem CP (c k : Int) : ∃ so, (so = 2 ∨ so = 3) ∧ atI [V.str "draw", V.str "late"] (pick c k 2) = some (V.str (eE so)) := by
 have h1 := d9 c k (m := 2) (by decide)
 have h2 := fP c k (m := 2) (by decide)
 generalize pick c k 2 = k at h1 h2
 rcases (by omega : k = 0 ∨ k = 1) with rfl | rfl
 ·exact ⟨2, .inl rfl, bu (j := 0) rfl⟩
 ·exact ⟨3, .inr rfl, bu (j := 1) rfl⟩
theorem il.rch {nb : Str → List Str} {one other : Str} {w : List Str} (h : il nb one other w) : Rch nb one other := by
 have key : ∀ (k : Nat) y, w[k + 1]? = some y → Rch nb one y := fun k => by
  induction k with
  | zero => exact fun y e => .one (h.st 0 _ _ h.fst e)
  | succ k ih =>
   intro y e
   have hk : k + 1 < w.length := by have := (List.getElem?_eq_some_iff.mp e).1; omega
   have e2 : w[k + 1]? = some w[k + 1] := List.getElem?_eq_getElem hk
   exact .more (ih _ e2) (h.st (k + 1) _ _ e2 e)
 have hl := h.lo
 have e := h.lst
 rw [show w.length - 1 = (w.length - 2) + 1 from by omega] at e
 exact key _ _ e
theorem il.of_eq {zs : List Str} {nb nc : Str → List Str} {one other : Str} {w : List Str} (g : Gr zs nb) (h1 : one ∈ zs) (e : ∀ z ∈ zs, nb z = nc z) (h : il nb one other w) : il nc one other w :=
 ⟨h.lo, h.hi, h.fst, h.lst, fun k x y ex ey => by rw [← e x (h.mem g h1 k x ex)]; exact h.st k x y ex ey, h.nr, h.nf⟩
end
structure Tx (K : PySem.W.Frag) (mg : Str → Option Value) (C : Nat → Addr) : Prop where
 sorted : mg "sorted" = none
 t_dict : mg "dict" = none
 any : mg "any" = none
 enumerate : mg "enumerate" = none
 len : mg "len" = none
 range : mg "range" = none
 inst : mg "isinstance" = none
 t_str : mg "str" = none
 t_int : mg "int" = none
 t_bool : mg "bool" = none
 t_list : mg "list" = none
 t_tuple : mg "tuple" = none
 all : mg "all" = none
 max : mg "max" = none
 min : mg "min" = none
 zip : mg "zip" = none
 g_MOST_PARTS : ∃ t, mg "MOST_PARTS" = some (.int 12 t)
 a_prefixes : ∃ f fd, FnAt K mg "prefixes" jG iZ f fd
 a_parent_of : ∃ f fd, FnAt K mg "parent_of" iR f9 f fd
 a_named_by : ∃ f fd, FnAt K mg "named_by" jQ jJ f fd
 a_check_part : ∃ f fd, FnAt K mg "check_part" gP dZ f fd
 a_links : ∃ f fd, FnAt K mg "links" qi n8 f fd
 a_all_links : ∃ f fd, FnAt K mg "all_links" iQ gf f fd
 a_reached : ∃ f fd, FnAt K mg "reached" lZ jN f fd
 a_leads : ∃ f fd, FnAt K mg "leads" qg nM f fd
 a_way_between : ∃ f fd, FnAt K mg "way_between" fK dF f fd
 a_is_orphan : ∃ f fd, FnAt K mg "is_orphan" jc iV f fd
 a_is_clash : ∃ f fd, FnAt K mg "is_clash" kJ jM f fd
 a_check_parts : ∃ f fd, FnAt K mg "check_parts" fQ fU f fd
 a_law_cell : ∃ f fd, FnAt K mg "_law_cell" jX pC f fd
 a_law_pick : ∃ f fd, FnAt K mg "_law_pick" jZ jt f fd
 a_law_words : ∃ f fd, FnAt K mg "_law_words" iK qH f fd
 a_law_addresses : ∃ f fd, FnAt K mg "_law_addresses" dH jd f fd
 a_law_asked : ∃ f fd, FnAt K mg "_law_asked" iU qz f fd
 a_law_drawn : ∃ f fd, FnAt K mg "_law_drawn" iH qu f fd
 a_law_rows : ∃ f fd, FnAt K mg "_law_rows" lu vG f fd
 a_law_row : ∃ f fd, FnAt K mg "_law_row" lX zJ f fd
 a_law_parts : ∃ f fd, FnAt K mg "_law_parts" iY qj f fd
 a_law_made : ∃ f fd, FnAt K mg "_law_made" jY u5 f fd
 a_law_prefixes : ∃ f fd, FnAt K mg "_law_prefixes" dW kI f fd
 a_law_links : ∃ f fd, FnAt K mg "_law_links" jb nU f fd
 a_law_behind : ∃ f fd, FnAt K mg "_law_behind" gJ ou f fd
 a_law_walked : ∃ f fd, FnAt K mg "_law_walked" gK oO f fd
 a_law_none : ∃ f fd, FnAt K mg "_law_none" jR uU f fd
 a_law_long : ∃ f fd, FnAt K mg "_law_long" kE uH f fd
 a_law_right : ∃ f fd, FnAt K mg "_law_right" iM qG f fd
 m_Row_binds : ∃ f fd, MAt K "binds" "Row.binds" fJ kj f fd ∧ Meth K (C 5) "binds" f ∧ Meth K (C 6) "binds" f
 m_Row_asked : ∃ f fd, MAt K "asked" "Row.asked" fL jT f fd ∧ Meth K (C 0) "asked" f ∧ Meth K (C 1) "asked" f ∧ Meth K (C 5) "asked" f ∧ Meth K (C 6) "asked" f
 i_Let : ∃ f fd, MAt K "__init__" "Let.__init__" du iW f fd ∧ Mk K (C 0) f
 m_Let_binds : ∃ f fd, MAt K "binds" "Let.binds" fX kO f fd ∧ Meth K (C 0) "binds" f
 i_Deed : ∃ f fd, MAt K "__init__" "Deed.__init__" cU gM f fd ∧ Mk K (C 1) f
 m_Deed_binds : ∃ f fd, MAt K "binds" "Deed.binds" dO jq f fd ∧ Meth K (C 1) "binds" f
 i_Draw : ∃ f fd, MAt K "__init__" "Draw.__init__" cQ gC f fd ∧ Mk K (C 2) f
 m_Draw_binds : ∃ f fd, MAt K "binds" "Draw.binds" eY jk f fd ∧ Meth K (C 2) "binds" f
 m_Draw_asked : ∃ f fd, MAt K "asked" "Draw.asked" eQ jj f fd ∧ Meth K (C 2) "asked" f
 i_Late : ∃ f fd, MAt K "__init__" "Late.__init__" cM gG f fd ∧ Mk K (C 3) f
 m_Late_binds : ∃ f fd, MAt K "binds" "Late.binds" d7 jm f fd ∧ Meth K (C 3) "binds" f
 m_Late_asked : ∃ f fd, MAt K "asked" "Late.asked" dU ji f fd ∧ Meth K (C 3) "asked" f
 i_Take : ∃ f fd, MAt K "__init__" "Take.__init__" cP gR f fd ∧ Mk K (C 4) f
 m_Take_binds : ∃ f fd, MAt K "binds" "Take.binds" eV jh f fd ∧ Meth K (C 4) "binds" f
 m_Take_asked : ∃ f fd, MAt K "asked" "Take.asked" eO jn f fd ∧ Meth K (C 4) "asked" f
 i_Need : ∃ f fd, MAt K "__init__" "Need.__init__" cR gQ f fd ∧ Mk K (C 5) f
 i_House : ∃ f fd, MAt K "__init__" "House.__init__" cC fM f fd ∧ Mk K (C 8) f
 m_House_addresses : ∃ f fd, MAt K "addresses" "House.addresses" bY bM f fd ∧ Meth K (C 8) "addresses" f
 m_House_has : ∃ f fd, MAt K "has" "House.has" fV gF f fd ∧ Meth K (C 8) "has" f
 m_House_part : ∃ f fd, MAt K "part" "House.part" dY fW f fd ∧ Meth K (C 8) "part" f
 i_Part : ∃ f fd, MAt K "__init__" "Part.__init__" cT gH f fd ∧ Mk K (C 7) f
 m_Part_bound : ∃ f fd, MAt K "bound" "Part.bound" eG fO f fd ∧ Meth K (C 7) "bound" f
 c_Let : mg "Let" = some (.ref (C 0))
 c_Deed : mg "Deed" = some (.ref (C 1))
 c_Draw : mg "Draw" = some (.ref (C 2))
 c_Late : mg "Late" = some (.ref (C 3))
 c_Take : mg "Take" = some (.ref (C 4))
 c_Need : mg "Need" = some (.ref (C 5))
 c_Row : mg "Row" = some (.ref (C 6))
 c_Part : mg "Part" = some (.ref (C 7))
 c_House : mg "House" = some (.ref (C 8))
 cn : MkN K (C 6)
 fam : Ju K C
 pt : SN K (C 7)
 hs : TQ K (C 8)
 c_HouseError : mg "HouseError" = some (.ref (C 20))
 c_NoPart : mg "NoPart" = some (.ref (C 21))
 x_HouseError : ExC K (C 20)
 xn : ExC K (C 21)
 xc : qd K (C 21)
 xs : Sub K (C 21) (C 20)
 xa : cz K (C 21) "address"
 xk : PySem.W.kitOne K (.ref (C 21)) (.ref (C 21)) = some true
 i_NoPart : ∃ f fd, XIn K (C 21) "NoPart.__init__" iw fc f fd
 ini1 : PySem.W.specialIn K (.ref (C 20)) "__getattribute__" = some (some (.builtin "type.__getattribute__"))
 ini2 : PySem.W.readsIn K (C 20) (.type "type") = true
 ini3 : PySem.W.findCls K (.ref (C 20)) (.type "type") "__init__" = some (.val (.builtin "ValueError.__init__"))
section
variable {P : Program} {w : World} {K : PySem.W.Frag} {mg : Str → Option Value} {base : Heap} {C : Nat → Addr} {f : Addr} {fd : FuncData}
theorem pM (T : Tx K mg C) (F : Fun K "__init__" "NoPart.__init__" iw f fd) : aK P w K mg base CX0 1 f fd fc (Bq (C 21) "address") := by
 refine F.oq ym fun _ _ _ _ H _ Q E hr h => ?_
 ·obtain ⟨x, y, rfl, hx, hy, q⟩ := h
  refine ⟨_, QSs.h (au (bU (Dj (by rfl) T.c_HouseError T.ini1 T.ini2 T.ini3 (ak (pv 0) (ak (Az (za aJ (za (IK (pv 1)) Hs))) aq))))
   (aB (Dk (pv 0) (pv 1)))), ?_⟩
  obtain ⟨z, rfl, hz⟩ := hy
  refine ⟨_, rfl, _, rfl, by decide +kernel, _, rfl, Or.inr ⟨_, rfl, Nat.le_trans hz ik, _, rfl, Pu (by decide +kernel) (by omega), Pu (by decide +kernel) (by omega), _, _, _, _, _, rfl, hx, T.xn, ?_⟩⟩
  exact ⟨_, rfl, _, rfl, _, _, _, rfl, hx, T.xc, T.xa, fun p hp hne => q p hp hne⟩
theorem vZ (T : Tx K mg C) (F : Fun K "prefixes" "prefixes" jG f fd) : aK P w K mg base CX0 1 f fd iZ qw := by
 refine F.oq pN fun _ _ _ _ H _ Q E hr h => ?_
 ·obtain ⟨ys, rfl, g, q⟩ := h
  refine ⟨_, QSs.h (au (aP (i := 1) pN.nd rfl (Or.inr rfl) (dD PySem.F.plainAttrs_str PySem.F.slot_str_split PySem.F.type_str_split oE (pv 0) (ak aJ aq)))
   (aB (aN (b7 (N := ["many", "names"]) [none, some 1] rfl (by kernel_rfl) (pD (by rfl) T.range (ak aA (ak (aU cY (aY aZ (by rfl) T.len PySem.boot_len (ak (pv 1) aq)) aA) aq))) (fun cl C fp s H => (aL (i := 0) (by decide +kernel : (["many", "names"] : List Str).Nodup) rfl (Or.inl rfl))) (fun cl C fp s H => eN) (fun cl C fp s H => (vd (K := K) rfl PySem.F.plainAttrs_str PySem.F.slot_str_join PySem.F.type_str_join (sy rfl) aJ (ak (dm (sH (K := K) rfl) (pv 1) jf (cW (pv 0))) aq))))))), ?_⟩
  have h36 := g.len
  have h3 := g.hi
  refine ⟨_, rfl, rfl, _, _, rfl, rfl, by decide +kernel, Nat.le_trans (show (dotted ys).length + 2 ≤ 1000 by omega) ik, fun p hp => ?_⟩
  rw [dq ys g.lo g.nm]
  refine ⟨_, rfl, p, _, rfl, .inl (SqL.of ao), _, _, rfl, rfl, _, _, rfl, ⟨by decide, by decide, by omega, by rw [List.length_map]; omega⟩, ?_⟩
  rw [List.length_map, show ((ys.length : Int) + 1 - 1).toNat = ys.length from by omega]
  refine rP (fun i => V.str (dotted (ys.take (i + 1)))) (Nat.le_trans (show ys.length ≤ 3 by omega) (by decide)) (fun i H' Q' hi sm k' => ?_) (fun τ H Q Q' hh h => hh _ _ h) (fun H' sm p2 hp2 => ?_)
  ·refine ⟨rfl, rfl, _, rfl, _, rfl, _, rfl, p, _, rfl, SqL.of (sm _ _ ao), fun p3 hp3 => ?_⟩
   have e : (1 + (i : Int)) = ((i + 1 : Nat) : Int) := by omega
   have hs : ((ys.take (i + 1)).map (·.length)).sum ≤ (ys.take (i + 1)).length * 8 := uD fun y hy => (g.nm y (List.mem_of_mem_take hy)).hi
   have ht : (ys.take (i + 1)).length ≤ 3 := Nat.le_trans (List.length_take_le' _ _) h3
   refine ⟨_, p3, ys.take (i + 1), rfl, rfl, .inl (SqL.of ?_), ?_, k' _ (az.new hp3)⟩
   ·rw [ao, e, jA _ (by omega)]; rfl
   ·rw [show (("." : Str)).length = 1 from by decide +kernel]; omega
  ·have h0 : H p2 = none := (az.new hp).free (sm.free hp2)
   refine q p2 _ h0 (((az.new hp).trans sm).put hp2) ?_
   rw [ao]
   unfold dM
   rw [List.map_map]
   rfl
theorem oA (T : Tx K mg C) (F : Fun K "parent_of" "parent_of" iR f fd) : aK P w K mg base CX0 1 f fd f9 su := by
 refine F.oq w6 fun _ _ _ _ H _ Q E hr h => ?_
 ·obtain ⟨ys, rfl, g, q⟩ := h
  refine ⟨_, QSs.h (aB (aN (bC xG (dD PySem.F.plainAttrs_str PySem.F.slot_str_rpartition PySem.F.type_str_rpartition vR (pv 0) (ak aJ aq)) aA (fun _ _ => rfl)))), ?_⟩
  refine ⟨_, rfl, rfl, _, _, rfl, rfl, by decide +kernel, Nat.le_trans g.len (by decide), fun p hp => ⟨p, _, _, _, rfl, rfl, SqT.of ao, bu (j := 0) rfl, ?_⟩⟩
  rw [HR g]
  exact q _ (az.new hp)
theorem uZ (T : Tx K mg C) (F : Fun K "is_orphan" "is_orphan" jc f fd) : aK P w K mg base CX0 2 f fd iV (wI C) := by
 obtain ⟨f_parent_of, fd_parent_of, A_parent_of⟩ := T.a_parent_of
 have G_parent_of : aK P w K mg base CX0 1 f_parent_of fd_parent_of f9 su := oA T A_parent_of.F
 refine F.oq pL fun _ _ _ _ H _ Q E hr h => ?_
 ·obtain ⟨p, l, la, ys, zs, rs, rfl, hp, g, hl, hup, q⟩ := h
  have hr1 : aR 1 _ := hr
  refine ⟨_, QSs.h (au (aP (i := 2) pL.nd rfl (Or.inl rfl) (aV A_parent_of G_parent_of hr1 (ak (cJ (pv 0) rfl) aq)))
   (aB (aN (Bx (iI t7 (pv 2) aJ (aW _)) (Bk (iI gO (pv 2) (pv 1) (by rfl))))))), ?_⟩
  obtain ⟨dx, fs, ea, a1, a2, a3, a4, a5, hr0⟩ := id hp
  refine ⟨_, rfl, rdF ea T.pt.cl.cl T.pt.na a1 ⟨ys, rfl, g, fun H1 s1 => ?_⟩⟩
  have hfl : (zs.map V.str).all cN = true := by rw [List.all_eq_true]; intro v hv; obtain ⟨z, _, rfl⟩ := List.mem_map.mp hv; rfl
  by_cases hd : ys.dropLast = []
  ·have e : jK ys = "" := by unfold jK; rw [if_pos hd]
   exact ⟨_, rfl, rfl, _, rfl, vC (decide_eq_true (congrArg V.str e)) (q H1 s1)⟩
  ·have e : jK ys = dotted ys.dropLast := by unfold jK; rw [if_neg hd]
   have hz : dotted ys.dropLast ∈ zs := hup.resolve_left hd
   have hin : inV (V.str (jK ys)) (zs.map V.str) = true := by rw [e]; exact pq (List.mem_map.mpr ⟨_, hz, rfl⟩)
   by_cases hne : jK ys = ""
   ·exact ⟨_, rfl, rfl, _, rfl, vC (decide_eq_true (congrArg V.str hne)) (q H1 s1)⟩
   ·refine ⟨_, rfl, rfl, _, rfl, yu (decide_eq_false fun z => hne (V.str.inj z)) ⟨_, rfl, _, rfl, la, _, rfl, .inl (SqL.of (s1 _ _ hl)), rfl, hfl, ?_⟩⟩
    have q2 := q H1 s1
    have e2 : (if true = true then !inV (V.str (jK ys)) (zs.map V.str) else inV (V.str (jK ys)) (zs.map V.str)) = false := by rw [hin]; rfl
    rw [← e2] at q2
    exact q2
theorem rE (T : Tx K mg C) (F : Fun K "binds" "Row.binds" fJ f fd) : aK P w K mg base CX0 1 f fd kj Bp := by
 refine F.oq vh fun _ _ _ _ H _ Q E hr h => ?_
 ·obtain ⟨v, rfl, q⟩ := h
  exact ⟨_, QSs.h (aB (aN aJ)), q H (az.refl H)⟩
theorem ie (T : Tx K mg C) (F : Fun K "asked" "Row.asked" fL f fd) : aK P w K mg base CX0 1 f fd jT uY := by
 refine F.oq vz fun _ _ _ _ H _ Q E hr h => ?_
 ·obtain ⟨v, rfl, q⟩ := h
  exact ⟨_, QSs.h (aB (aN (bH aq))), by show 0 ≤ sizeLine; decide, fun b hb => q b _ hb (az.new hb) ao⟩
theorem oK (T : Tx K mg C) (F : Fun K "__init__" "Let.__init__" du f fd) : aK P w K mg base CX0 1 f fd iW (vg C 0) := by
 refine F.oq wg fun _ _ _ _ H _ Q E hr h => ?_
 ·obtain ⟨x, dx, r, d, rfl, hso, hx, hts, h10, q⟩ := h
  refine ⟨_, QSs.h (au (dI (pv 0) (pv 1))
   (aB (dI (pv 0) (dJ cD (by rfl) T.t_list PyProof.Rows.boot_list (ak (pv 2) aq))))), ?_⟩
  obtain ⟨xs, hl, hxl, hxt⟩ := id hts
  have hdx : d ≠ x := eX hl hx (by intro z; cases z)
  refine ⟨_, rfl, _, rfl, x, _, dx, _, rfl, hx, (T.fam.c 0 (by decide)).cl, T.fam.nn 0 (by decide), Nat.lt_of_lt_of_le (Nat.zero_lt_one) (by decide), _, rfl, d, _, rfl, .inl (SqL.of (by rw [aG hdx]; exact hl)), fun l hlf => ⟨_, rfl, x, _, dx, _, rfl, (by rw [aG (jB hlf).2.symm]; exact ao), (T.fam.c 0 (by decide)).cl, T.fam.nt 0 (by decide), Nat.lt_of_lt_of_le (xu Nat.zero_lt_one) (by decide), ?_⟩⟩
  obtain ⟨hl0, hlx⟩ := jB hlf
  refine q l _ hl0 (sb3 hl0) ⟨dx, _, by rw [hso]; exact ao, ?_⟩
  refine ⟨fun _ => (lkN (by decide +kernel)).trans lkP, fun _ => ⟨lkP, xs, by rw [aG hlx]; exact ao, hxl, fun j y e => ?_⟩, fun k => absurd k (by omega), fun k => absurd k (by omega), (lkN (by decide +kernel)).trans (lkN (by decide +kernel)), (lkN (by decide +kernel)).trans (lkN (by decide +kernel)), (lkN (by decide +kernel)).trans (lkN (by decide +kernel))⟩
  obtain ⟨t, et, tm⟩ := hxt j y e
  exact ⟨t, et, tm.but hx (sb3 hl0)⟩
theorem qY (T : Tx K mg C) (F : Fun K "binds" "Let.binds" fX f fd) : aK P w K mg base CX0 1 f fd kO (spB C 0) := by
 refine F.oq vA fun _ _ _ _ H _ Q E hr h => ?_
 ·obtain ⟨a, l, r, rfl, hso, ra, q⟩ := h
  refine ⟨_, QSs.h (aB (aN (cJ (pv 0) rfl))), ?_⟩
  obtain ⟨dx, fs, ha, hf⟩ := id ra
  rw [hso] at ha
  exact ⟨_, rfl, rdF ha (T.fam.c 0 (by decide)).cl (T.fam.nn 0 (by decide)) (hf.nm (by rw [hso]; decide)) (q H (az.refl H))⟩
theorem m6 (T : Tx K mg C) (F : Fun K "__init__" "Deed.__init__" cU f fd) : aK P w K mg base CX0 1 f fd gM (vg C 1) := by
 refine F.oq vO fun _ _ _ _ H _ Q E hr h => ?_
 ·obtain ⟨x, dx, r, d, rfl, hso, hx, hts, h10, q⟩ := h
  refine ⟨_, QSs.h (au (dI (pv 0) (pv 1))
   (aB (dI (pv 0) (dJ cD (by rfl) T.t_list PyProof.Rows.boot_list (ak (pv 2) aq))))), ?_⟩
  obtain ⟨xs, hl, hxl, hxt⟩ := id hts
  have hdx : d ≠ x := eX hl hx (by intro z; cases z)
  refine ⟨_, rfl, _, rfl, x, _, dx, _, rfl, hx, (T.fam.c 1 (by decide)).cl, T.fam.nn 1 (by decide), Nat.lt_of_lt_of_le (Nat.zero_lt_one) (by decide), _, rfl, d, _, rfl, .inl (SqL.of (by rw [aG hdx]; exact hl)), fun l hlf => ⟨_, rfl, x, _, dx, _, rfl, (by rw [aG (jB hlf).2.symm]; exact ao), (T.fam.c 1 (by decide)).cl, T.fam.nt 1 (by decide), Nat.lt_of_lt_of_le (xu Nat.zero_lt_one) (by decide), ?_⟩⟩
  obtain ⟨hl0, hlx⟩ := jB hlf
  refine q l _ hl0 (sb3 hl0) ⟨dx, _, by rw [hso]; exact ao, ?_⟩
  refine ⟨fun _ => (lkN (by decide +kernel)).trans lkP, fun _ => ⟨lkP, xs, by rw [aG hlx]; exact ao, hxl, fun j y e => ?_⟩, fun k => absurd k (by omega), fun k => absurd k (by omega), (lkN (by decide +kernel)).trans (lkN (by decide +kernel)), (lkN (by decide +kernel)).trans (lkN (by decide +kernel)), (lkN (by decide +kernel)).trans (lkN (by decide +kernel))⟩
  obtain ⟨t, et, tm⟩ := hxt j y e
  exact ⟨t, et, tm.but hx (sb3 hl0)⟩
theorem pU (T : Tx K mg C) (F : Fun K "binds" "Deed.binds" dO f fd) : aK P w K mg base CX0 1 f fd jq (spB C 1) := by
 refine F.oq tD fun _ _ _ _ H _ Q E hr h => ?_
 ·obtain ⟨a, l, r, rfl, hso, ra, q⟩ := h
  refine ⟨_, QSs.h (aB (aN (cJ (pv 0) rfl))), ?_⟩
  obtain ⟨dx, fs, ha, hf⟩ := id ra
  rw [hso] at ha
  exact ⟨_, rfl, rdF ha (T.fam.c 1 (by decide)).cl (T.fam.nn 1 (by decide)) (hf.nm (by rw [hso]; decide)) (q H (az.refl H))⟩
theorem mW (T : Tx K mg C) (F : Fun K "__init__" "Draw.__init__" cQ f fd) : aK P w K mg base CX0 1 f fd gC (vN C 2) := by
 refine F.oq uX fun _ _ _ _ H _ Q E hr h => ?_
 ·obtain ⟨x, dx, r, rfl, hso, hx, q⟩ := h
  refine ⟨_, QSs.h (au (dI (pv 0) (pv 1))
   (aB (dI (pv 0) (pv 2)))), ?_⟩
  refine ⟨_, rfl, _, rfl, x, _, dx, _, rfl, hx, (T.fam.c 2 (by decide)).cl, T.fam.na 2 (by decide), Nat.lt_of_lt_of_le (Nat.zero_lt_one) (by decide), _, rfl, _, rfl, x, _, dx, _, rfl, ao, (T.fam.c 2 (by decide)).cl, T.fam.nn 2 (by decide), Nat.lt_of_lt_of_le (xu Nat.zero_lt_one) (by decide), ?_⟩
  refine q _ (fun b o e hb => by rw [aG hb, aG hb]; exact e) fun l => ⟨dx, _, by rw [hso]; exact ao, ?_⟩
  exact ⟨fun _ => lkP, fun k => absurd k (by omega), fun _ => (lkN (by decide +kernel)).trans lkP, fun k => absurd k (by omega), (lkN (by decide +kernel)).trans (lkN (by decide +kernel)), (lkN (by decide +kernel)).trans (lkN (by decide +kernel)), (lkN (by decide +kernel)).trans (lkN (by decide +kernel))⟩
theorem pX (T : Tx K mg C) (F : Fun K "binds" "Draw.binds" eY f fd) : aK P w K mg base CX0 1 f fd jk (spB C 2) := by
 refine F.oq sU fun _ _ _ _ H _ Q E hr h => ?_
 ·obtain ⟨a, l, r, rfl, hso, ra, q⟩ := h
  refine ⟨_, QSs.h (aB (aN (cJ (pv 0) rfl))), ?_⟩
  obtain ⟨dx, fs, ha, hf⟩ := id ra
  rw [hso] at ha
  exact ⟨_, rfl, rdF ha (T.fam.c 2 (by decide)).cl (T.fam.nn 2 (by decide)) (hf.nm (by rw [hso]; decide)) (q H (az.refl H))⟩
theorem pZ (T : Tx K mg C) (F : Fun K "asked" "Draw.asked" eQ f fd) : aK P w K mg base CX0 1 f fd jj (spA C 2) := by
 refine F.oq tK fun _ _ _ _ H _ Q E hr h => ?_
 ·obtain ⟨a, l, r, rfl, hso, ra, q⟩ := h
  refine ⟨_, QSs.h (aB (aN (bH (ak (cJ (pv 0) rfl) aq)))), ?_⟩
  obtain ⟨dx, fs, ha, hf⟩ := id ra
  rw [hso] at ha
  exact ⟨_, rfl, rdF ha (T.fam.c 2 (by decide)).cl (T.fam.na 2 (by decide)) (hf.ad (.inl hso)) ⟨by show 1 ≤ sizeLine; decide, fun b hb => q b _ hb (az.new hb) ao⟩⟩
theorem m9 (T : Tx K mg C) (F : Fun K "__init__" "Late.__init__" cM f fd) : aK P w K mg base CX0 1 f fd gG (vN C 3) := by
 refine F.oq uT fun _ _ _ _ H _ Q E hr h => ?_
 ·obtain ⟨x, dx, r, rfl, hso, hx, q⟩ := h
  refine ⟨_, QSs.h (au (dI (pv 0) (pv 1))
   (aB (dI (pv 0) (pv 2)))), ?_⟩
  refine ⟨_, rfl, _, rfl, x, _, dx, _, rfl, hx, (T.fam.c 3 (by decide)).cl, T.fam.na 3 (by decide), Nat.lt_of_lt_of_le (Nat.zero_lt_one) (by decide), _, rfl, _, rfl, x, _, dx, _, rfl, ao, (T.fam.c 3 (by decide)).cl, T.fam.nn 3 (by decide), Nat.lt_of_lt_of_le (xu Nat.zero_lt_one) (by decide), ?_⟩
  refine q _ (fun b o e hb => by rw [aG hb, aG hb]; exact e) fun l => ⟨dx, _, by rw [hso]; exact ao, ?_⟩
  exact ⟨fun _ => lkP, fun k => absurd k (by omega), fun _ => (lkN (by decide +kernel)).trans lkP, fun k => absurd k (by omega), (lkN (by decide +kernel)).trans (lkN (by decide +kernel)), (lkN (by decide +kernel)).trans (lkN (by decide +kernel)), (lkN (by decide +kernel)).trans (lkN (by decide +kernel))⟩
theorem p8 (T : Tx K mg C) (F : Fun K "binds" "Late.binds" d7 f fd) : aK P w K mg base CX0 1 f fd jm (spB C 3) := by
 refine F.oq sV fun _ _ _ _ H _ Q E hr h => ?_
 ·obtain ⟨a, l, r, rfl, hso, ra, q⟩ := h
  refine ⟨_, QSs.h (aB (aN (cJ (pv 0) rfl))), ?_⟩
  obtain ⟨dx, fs, ha, hf⟩ := id ra
  rw [hso] at ha
  exact ⟨_, rfl, rdF ha (T.fam.c 3 (by decide)).cl (T.fam.nn 3 (by decide)) (hf.nm (by rw [hso]; decide)) (q H (az.refl H))⟩
theorem pW (T : Tx K mg C) (F : Fun K "asked" "Late.asked" dU f fd) : aK P w K mg base CX0 1 f fd ji (spA C 3) := by
 refine F.oq sZ fun _ _ _ _ H _ Q E hr h => ?_
 ·obtain ⟨a, l, r, rfl, hso, ra, q⟩ := h
  refine ⟨_, QSs.h (aB (aN (bH (ak (cJ (pv 0) rfl) aq)))), ?_⟩
  obtain ⟨dx, fs, ha, hf⟩ := id ra
  rw [hso] at ha
  exact ⟨_, rfl, rdF ha (T.fam.c 3 (by decide)).cl (T.fam.na 3 (by decide)) (hf.ad (.inr (.inl hso))) ⟨by show 1 ≤ sizeLine; decide, fun b hb => q b _ hb (az.new hb) ao⟩⟩
theorem mU (T : Tx K mg C) (F : Fun K "__init__" "Take.__init__" cP f fd) : aK P w K mg base CX0 1 f fd gR (BZ C) := by
 refine F.oq uF fun _ _ _ _ H _ Q E hr h => ?_
 ·obtain ⟨x, dx, r, rfl, hso, hx, q⟩ := h
  refine ⟨_, QSs.h (au (dI (pv 0) (pv 1))
   (au (dI (pv 0) (pv 2))
   (aB (dI (pv 0) (pv 3))))), ?_⟩
  refine ⟨_, rfl, _, rfl, x, _, dx, _, rfl, hx, (T.fam.c 4 (by decide)).cl, T.fam.nw 4 (by decide), Nat.lt_of_lt_of_le (Nat.zero_lt_one) (by decide), _, rfl, _, rfl, x, _, dx, _, rfl, ao, (T.fam.c 4 (by decide)).cl, T.fam.na 4 (by decide), Nat.lt_of_lt_of_le (xu Nat.zero_lt_one) (by decide), _, rfl, _, rfl, x, _, dx, _, rfl, ao, (T.fam.c 4 (by decide)).cl, T.fam.nn 4 (by decide), Nat.lt_of_lt_of_le (xu (xu Nat.zero_lt_one)) (by decide), ?_⟩
  refine q _ (fun b o e hb => by rw [aG hb, aG hb, aG hb]; exact e) fun l => ⟨dx, _, by rw [hso]; exact ao, ?_⟩
  exact ⟨fun _ => lkP, fun k => absurd k (by omega), fun _ => (lkN (by decide +kernel)).trans lkP, fun _ => (lkN (by decide +kernel)).trans ((lkN (by decide +kernel)).trans lkP), (lkN (by decide +kernel)).trans ((lkN (by decide +kernel)).trans (lkN (by decide +kernel))), (lkN (by decide +kernel)).trans ((lkN (by decide +kernel)).trans (lkN (by decide +kernel))), (lkN (by decide +kernel)).trans ((lkN (by decide +kernel)).trans (lkN (by decide +kernel)))⟩
theorem pO (T : Tx K mg C) (F : Fun K "binds" "Take.binds" eV f fd) : aK P w K mg base CX0 1 f fd jh (spB C 4) := by
 refine F.oq sX fun _ _ _ _ H _ Q E hr h => ?_
 ·obtain ⟨a, l, r, rfl, hso, ra, q⟩ := h
  refine ⟨_, QSs.h (aB (aN (cJ (pv 0) rfl))), ?_⟩
  obtain ⟨dx, fs, ha, hf⟩ := id ra
  rw [hso] at ha
  exact ⟨_, rfl, rdF ha (T.fam.c 4 (by decide)).cl (T.fam.nn 4 (by decide)) (hf.nm (by rw [hso]; decide)) (q H (az.refl H))⟩
theorem p6 (T : Tx K mg C) (F : Fun K "asked" "Take.asked" eO f fd) : aK P w K mg base CX0 1 f fd jn (spA C 4) := by
 refine F.oq tM fun _ _ _ _ H _ Q E hr h => ?_
 ·obtain ⟨a, l, r, rfl, hso, ra, q⟩ := h
  refine ⟨_, QSs.h (aB (aN (bH (ak (cJ (pv 0) rfl) aq)))), ?_⟩
  obtain ⟨dx, fs, ha, hf⟩ := id ra
  rw [hso] at ha
  exact ⟨_, rfl, rdF ha (T.fam.c 4 (by decide)).cl (T.fam.na 4 (by decide)) (hf.ad (.inr (.inr hso))) ⟨by show 1 ≤ sizeLine; decide, fun b hb => q b _ hb (az.new hb) ao⟩⟩
theorem nu (T : Tx K mg C) (F : Fun K "__init__" "Need.__init__" cR f fd) : aK P w K mg base CX0 1 f fd gQ (BW C) := by
 refine F.oq vo fun _ _ _ _ H _ Q E hr h => ?_
 ·obtain ⟨x, dx, r, d, rfl, hso, hx, hts, h10, q⟩ := h
  refine ⟨_, QSs.h (aB (dI (pv 0) (dJ cD (by rfl) T.t_list PyProof.Rows.boot_list (ak (pv 1) aq)))), ?_⟩
  obtain ⟨xs, hl, hxl, hxt⟩ := id hts
  refine ⟨_, rfl, d, _, rfl, .inl (SqL.of hl), fun l hl0 => ⟨_, rfl, x, _, dx, _, rfl, (by rw [aG (aF hx hl0)]; exact hx), (T.fam.c 5 (by decide)).cl, T.fam.nt 5 (by decide), Nat.lt_of_lt_of_le (Nat.zero_lt_one) (by decide), ?_⟩⟩
  have hlx : l ≠ x := (aF hx hl0).symm
  refine q l _ hl0 (sb2 hl0) ⟨dx, _, by rw [hso]; exact ao, ?_⟩
  refine ⟨fun k => absurd k (by omega), fun _ => ⟨lkP, xs, by rw [aG hlx]; exact ao, hxl, fun j y e => ?_⟩, fun k => absurd k (by omega), fun k => absurd k (by omega), lkN (by decide +kernel), lkN (by decide +kernel), lkN (by decide +kernel)⟩
  obtain ⟨t, et, tm⟩ := hxt j y e
  exact ⟨t, et, tm.but hx (sb2 hl0)⟩
theorem lB {C : Addr} {m : Str} {f : Addr} {fd : FuncData} {q : Str} {st : Stmt} {ps : List Str} {k : Nat} {sp sp' : Sp} (A : MAt K m q st ps f fd) (M : Meth K C m f) (G : aK P w K mg base CX0 k f fd ps sp) (hk : k ≤ 3) (h : ∀ vs H Q E, sp' vs H Q E → sp vs H Q E) : VM P w K mg base 3 C m sp' :=
 ⟨f, fd, ps, M, (G.mono hk).imp h, A.b⟩
theorem rdB {C : Nat → Addr} (T : Tx K mg C) {H : Hp} {a l : Addr} {r : bW} {Q : VK} (ra : cA C H a l r) (g : GoodR r) (q : Pur (.str r.nm) H Q) : MV P w K mg base 3 "binds" (.ref a) H Q := by
 obtain ⟨so, nn, aa, ww, tt⟩ := r
 have h5 : so ≤ 5 := g.so
 obtain ⟨dx, fs, ha, hf⟩ := id ra
 rcases six h5 with rfl | rfl | rfl | rfl | rfl | rfl
 ·obtain ⟨f, fd, A, M⟩ := T.m_Let_binds
  exact ⟨a, C 0, dx, fs, spB C 0, rfl, ha, hf.nb, (T.fam.c 0 (by decide)).cl, lB A M (qY T A.F) (by decide) (fun _ _ _ _ h => h), a, l, _, rfl, rfl, ra, q⟩
 ·obtain ⟨f, fd, A, M⟩ := T.m_Deed_binds
  exact ⟨a, C 1, dx, fs, spB C 1, rfl, ha, hf.nb, (T.fam.c 1 (by decide)).cl, lB A M (pU T A.F) (by decide) (fun _ _ _ _ h => h), a, l, _, rfl, rfl, ra, q⟩
 ·obtain ⟨f, fd, A, M⟩ := T.m_Draw_binds
  exact ⟨a, C 2, dx, fs, spB C 2, rfl, ha, hf.nb, (T.fam.c 2 (by decide)).cl, lB A M (pX T A.F) (by decide) (fun _ _ _ _ h => h), a, l, _, rfl, rfl, ra, q⟩
 ·obtain ⟨f, fd, A, M⟩ := T.m_Late_binds
  exact ⟨a, C 3, dx, fs, spB C 3, rfl, ha, hf.nb, (T.fam.c 3 (by decide)).cl, lB A M (p8 T A.F) (by decide) (fun _ _ _ _ h => h), a, l, _, rfl, rfl, ra, q⟩
 ·obtain ⟨f, fd, A, M⟩ := T.m_Take_binds
  exact ⟨a, C 4, dx, fs, spB C 4, rfl, ha, hf.nb, (T.fam.c 4 (by decide)).cl, lB A M (pO T A.F) (by decide) (fun _ _ _ _ h => h), a, l, _, rfl, rfl, ra, q⟩
 ·obtain ⟨f, fd, A, M⟩ := T.m_Row_binds
  exact ⟨a, C 5, dx, fs, Bp, rfl, ha, hf.nb, (T.fam.c 5 (by decide)).cl, lB A M.1 (rE T A.F) (by decide) (fun _ _ _ _ h => h), .ref a, rfl, by have e : nn = "" := g.no rfl; rw [← e]; exact q⟩
theorem rdA {C : Nat → Addr} (T : Tx K mg C) {H : Hp} {a l : Addr} {r : bW} {Q : VK} (ra : cA C H a l r) (g : GoodR r) (q : ∀ b H', H b = none → az H H' → H' b = some (.lst ((dw r).map V.str)) → Q (.ref b) H') : MV P w K mg base 3 "asked" (.ref a) H Q := by
 obtain ⟨so, nn, aa, ww, tt⟩ := r
 have h5 : so ≤ 5 := g.so
 obtain ⟨dx, fs, ha, hf⟩ := id ra
 rcases six h5 with rfl | rfl | rfl | rfl | rfl | rfl
 ·obtain ⟨f, fd, A, M⟩ := T.m_Row_asked
  exact ⟨a, C 0, dx, fs, uY, rfl, ha, hf.na, (T.fam.c 0 (by decide)).cl, lB A M.1 (ie T A.F) (by decide) (fun _ _ _ _ h => h), .ref a, rfl, fun b H' h1 h2 h3 => q b H' h1 h2 h3⟩
 ·obtain ⟨f, fd, A, M⟩ := T.m_Row_asked
  exact ⟨a, C 1, dx, fs, uY, rfl, ha, hf.na, (T.fam.c 1 (by decide)).cl, lB A M.2.1 (ie T A.F) (by decide) (fun _ _ _ _ h => h), .ref a, rfl, fun b H' h1 h2 h3 => q b H' h1 h2 h3⟩
 ·obtain ⟨f, fd, A, M⟩ := T.m_Draw_asked
  exact ⟨a, C 2, dx, fs, spA C 2, rfl, ha, hf.na, (T.fam.c 2 (by decide)).cl, lB A M (pZ T A.F) (by decide) (fun _ _ _ _ h => h), a, l, _, rfl, rfl, ra, fun b H' h1 h2 h3 => q b H' h1 h2 h3⟩
 ·obtain ⟨f, fd, A, M⟩ := T.m_Late_asked
  exact ⟨a, C 3, dx, fs, spA C 3, rfl, ha, hf.na, (T.fam.c 3 (by decide)).cl, lB A M (pW T A.F) (by decide) (fun _ _ _ _ h => h), a, l, _, rfl, rfl, ra, fun b H' h1 h2 h3 => q b H' h1 h2 h3⟩
 ·obtain ⟨f, fd, A, M⟩ := T.m_Take_asked
  exact ⟨a, C 4, dx, fs, spA C 4, rfl, ha, hf.na, (T.fam.c 4 (by decide)).cl, lB A M (p6 T A.F) (by decide) (fun _ _ _ _ h => h), a, l, _, rfl, rfl, ra, fun b H' h1 h2 h3 => q b H' h1 h2 h3⟩
 ·obtain ⟨f, fd, A, M⟩ := T.m_Row_asked
  exact ⟨a, C 5, dx, fs, uY, rfl, ha, hf.na, (T.fam.c 5 (by decide)).cl, lB A M.2.2.1 (ie T A.F) (by decide) (fun _ _ _ _ h => h), .ref a, rfl, fun b H' h1 h2 h3 => q b H' h1 h2 h3⟩
theorem mZ (T : Tx K mg C) (F : Fun K "__init__" "Part.__init__" cT f fd) : aK P w K mg base CX0 1 f fd gH (CW C) := by
 refine F.oq uW fun _ _ _ _ H _ Q E hr h => ?_
 ·obtain ⟨x, dx, ad, d, rs, rfl, hx, hrs, h12, q⟩ := h
  refine ⟨_, QSs.h (au (dI (pv 0) (pv 1))
   (aB (dI (pv 0) (dJ cD (by rfl) T.t_list PyProof.Rows.boot_list (ak (pv 2) aq))))), ?_⟩
  obtain ⟨xs, hl, hxl, hxt⟩ := id hrs
  have hdx : d ≠ x := eX hl hx (by intro z; cases z)
  refine ⟨_, rfl, _, rfl, x, _, dx, _, rfl, hx, T.pt.cl.cl, T.pt.na, Nat.lt_of_lt_of_le (Nat.zero_lt_one) (by decide), _, rfl, d, _, rfl, .inl (SqL.of (by rw [aG hdx]; exact hl)), fun l hlf => ⟨_, rfl, x, _, dx, _, rfl, (by rw [aG (jB hlf).2.symm]; exact ao), T.pt.cl.cl, T.pt.nr, Nat.lt_of_lt_of_le (xu Nat.zero_lt_one) (by decide), ?_⟩⟩
  obtain ⟨hl0, hlx⟩ := jB hlf
  refine q l _ hl0 (sb3 hl0) ⟨dx, _, ao, (lkN (by decide +kernel)).trans lkP, lkP, (lkN (by decide +kernel)).trans (lkN (by decide +kernel)), (lkN (by decide +kernel)).trans (lkN (by decide +kernel)), (lkN (by decide +kernel)).trans (lkN (by decide +kernel)), ?_⟩
  refine ⟨xs, by rw [aG hlx]; exact ao, hxl, fun j r e => ?_⟩
  obtain ⟨a, t, e2, ra⟩ := hxt j r e
  exact ⟨a, t, e2, ra.but (h12.at e) hx (sb3 hl0)⟩
theorem pR (T : Tx K mg C) (F : Fun K "bound" "Part.bound" eG f fd) : aK P w K mg base CX0 4 f fd fO (zM C) := by
 refine F.oq mD fun _ _ _ _ H _ Q E hr h => ?_
 ·obtain ⟨p, ad, l, rs, rfl, hp, hg, q⟩ := h
  have hr3 : aR 3 _ := hr
  refine ⟨_, QSs.h (au (jW (N := ["row"]) [none] (i := 1) mD.nd rfl (Or.inl rfl) rfl (by kernel_rfl) (bj (cJ (pv 0) rfl)) (fun cl C fp s H => (aL (i := 0) (by decide +kernel : (["row"] : List Str).Nodup) rfl (Or.inl rfl))) (fun cl C fp s H => eN) (fun cl C fp s H => (wQ (P := P) (w := w) (K := K) (mg := mg) (base := base) rfl rfl rfl rfl rfl hr3 (pv 0))))
   (aB (aN (b7 (N := ["name"]) [none] rfl (by kernel_rfl) (bj (pv 1)) (fun cl C fp s H => (aL (i := 0) (by decide +kernel : (["name"] : List Str).Nodup) rfl (Or.inl rfl))) (fun cl C fp s H => (jH (aM t7 (pv 0) aJ (aW _)))) (fun cl C fp s H => (pv 0)))))), ?_⟩
  obtain ⟨dx, fs, ea, a1, a2, a3, a4, a5, hr0⟩ := id hp
  obtain ⟨xs, hl, hxl, hxt⟩ := id hr0
  refine ⟨_, rfl, rdF ea T.pt.cl.cl T.pt.nr a2 ?_⟩
  have hx12 : xs.length ≤ sizeLine := Nat.le_trans (show xs.length ≤ 12 by rw [hxl]; exact hg.hi) (by decide)
  refine ⟨l, rfl, ⟨xs, SqL.of hl⟩, ?_⟩
  refine fu (fun i => (rs.map fun r => V.str r.nm).getD i .non) hx12 (SqL.of hl) (fun i x H' Q' hx sm k => ?_) (fun H' sm b hb => ?_)
  ·have hi : i < rs.length := by rw [← hxl]; exact (List.getElem?_eq_some_iff.mp hx).1
   obtain ⟨a, t, e2, ra⟩ := hxt i rs[i] (List.getElem?_eq_getElem hi)
   obtain rfl : x = .ref a := by rw [hx] at e2; exact Option.some.inj e2
   refine ⟨_, rfl, rdB T (ra.same sm) (hg.at (List.getElem?_eq_getElem hi)) fun H'' s'' => ?_⟩
   have e : (rs.map fun r => V.str r.nm).getD i .non = V.str rs[i].nm := by simp [List.getD, hi]
   rw [← e]
   exact k H'' s''
  ·have em : (List.range xs.length).map (fun i => (rs.map fun r => V.str r.nm).getD i .non) = rs.map fun r => V.str r.nm := by
    apply List.ext_getElem
    ·simp [hxl]
    ·intro i h1 h2
     have : i < rs.length := by simpa using h2
     simp [this]
   rw [em]
   refine ⟨_, rfl, b, rfl, ⟨_, SqL.of ao⟩, ?_⟩
   refine bV isE (by rw [List.length_map, ← hxl]; exact hx12) (SqL.of ao) (fun x H2 Q2 hx s2 k => ?_) (fun x H2 Q2 hx s2 k => ?_) (fun H2 s2 c hc => ?_)
   ·obtain ⟨r, _, rfl⟩ := List.mem_map.mp hx
    exact ⟨_, rfl, rfl, _, rfl, k H2 (az.refl H2)⟩
   ·exact ⟨_, rfl, k H2 (az.refl H2)⟩
   ·exact q c _ (sm.free ((az.new hb).free (s2.free hc))) (sm.trans ((az.new hb).trans (s2.put hc))) ao
theorem wK (T : Tx K mg C) (F : Fun K "is_clash" "is_clash" kJ f fd) : aK P w K mg base CX0 5 f fd jM (yU C) := by
 obtain ⟨f_bound, fd_bound, A_bound, M_bound⟩ := T.m_Part_bound
 have G_bound : aK P w K mg base CX0 4 f_bound fd_bound fO (zM C) := pR T A_bound.F
 refine F.oq yl fun _ _ _ _ H _ Q E hr h => ?_
 ·obtain ⟨p, l, la, ys, zs, rs, rfl, hp, g, hg, hl, hcl, q⟩ := h
  have hr4 : aR 4 _ := hr
  refine ⟨_, QSs.h (aB (aN (aY (wF rfl) (by rfl) T.any PyProof.Rows.boot_any (ak (b7 (N := ["name", "addresses", "part"]) [none, some 1, some 0] rfl (by kernel_rfl) (bj (rQ (pv 0) T.pt.cl.cl M_bound G_bound hr4 A_bound.b .nil pK)) (fun cl C fp s H => (aL (i := 0) (by decide +kernel : (["name", "addresses", "part"] : List Str).Nodup) rfl (Or.inl rfl))) (fun cl C fp s H => eN) (fun cl C fp s H => (iI (uM (K := K) rfl) (aU bB (aU bB (qF (K := K) rfl (pv 2) rfl) aJ) (pv 0)) (pv 1) (by rfl)))) aq)))), ?_⟩
  obtain ⟨dx, fs, ea, a1, a2, a3, a4, a5, hr0⟩ := id hp
  have hfl : (zs.map V.str).all cN = true := by rw [List.all_eq_true]; intro v hv; obtain ⟨z, _, rfl⟩ := List.mem_map.mp hv; rfl
  have hnl : (pF rs).length ≤ 12 := by
   have h1 := List.length_filter_le isE (rs.map fun r => V.str r.nm)
   rw [List.length_map] at h1
   exact Nat.le_trans h1 hg.hi
  refine ⟨_, rfl, p, dx, fs, rfl, ea, a3, p, _, l, rs, rfl, hp, hg, fun b H1 hb s1 hbl => ⟨b, rfl, ⟨_, SqL.of hbl⟩, ?_⟩⟩
  refine fu (fun _ => V.bl false) (Nat.le_trans hnl (by decide)) (SqL.of hbl) (fun i x H' Q' hx sm k => ?_) (fun H' sm c hc => ?_)
  ·obtain ⟨r, hr, rfl, hn⟩ := yo (List.mem_of_getElem? hx)
   have s2 := s1.trans sm
   have h8 : r.nm.length ≤ 8 := (hg.ok r hr).nl
   have h36 := g.len
   refine ⟨_, rfl, rdF (s2 _ _ ea) T.pt.cl.cl T.pt.na a1 ⟨_, _, rfl, rfl, abS h36 lA, _, rfl, _, _, rfl, rfl, abS (alS h36 lA) h8, _, rfl, la, _, rfl, .inl (SqL.of (s2 _ _ hl)), rfl, hfl, ?_⟩⟩
   have hin : inV (V.str (dotted ys ++ "." ++ r.nm)) (zs.map V.str) = false := yh fun v hv => by
    obtain ⟨z, hz, rfl⟩ := List.mem_map.mp hv
    exact ⟨z, rfl, fun e => hcl r hr hn (e ▸ hz)⟩
   have k2 : Q' (V.bl false) H' := k H' (az.refl _)
   rw [← hin] at k2
   exact k2
  ·refine ⟨c, List.replicate (pF rs).length false, rfl, SqL.of (ao.trans ?_), ?_⟩
   ·rw [List.map_replicate]
    congr 2
    apply List.ext_getElem
    ·simp
    ·intro i h1 h2
     simp
   ·have e : ((List.replicate (pF rs).length false).any id) = false := by simp
    show Q (V.bl ((List.replicate (pF rs).length false).any id)) _
    rw [e]
    exact q _ ((s1.trans sm).put hc)
theorem rO (T : Tx K mg C) (F : Fun K "check_parts" "check_parts" fQ f fd) : aK P w K mg base CX0 6 f fd fU (yK C) := by
 obtain ⟨f_is_orphan, fd_is_orphan, A_is_orphan⟩ := T.a_is_orphan
 have G_is_orphan : aK P w K mg base CX0 2 f_is_orphan fd_is_orphan iV (wI C) := uZ T A_is_orphan.F
 obtain ⟨f_is_clash, fd_is_clash, A_is_clash⟩ := T.a_is_clash
 have G_is_clash : aK P w K mg base CX0 5 f_is_clash fd_is_clash jM (yU C) := wK T A_is_clash.F
 refine F.oq fY fun _ _ _ _ H _ Q E hr h => ?_
 ·obtain ⟨l, ps, rfl, hps, g, q⟩ := h
  have hr2 : aR 2 _ := hr.mono (by decide)
  have hr5 : aR 5 _ := hr
  refine ⟨_, QSs.h (au (jW (N := ["part"]) [none] (i := 1) fY.nd rfl (Or.inl rfl) rfl (by kernel_rfl) (bj (pv 0)) (fun cl C fp s H => (aL (i := 0) (by decide +kernel : (["part"] : List Str).Nodup) rfl (Or.inl rfl))) (fun cl C fp s H => eN) (fun cl C fp s H => (qF (K := K) rfl (pv 0) rfl)))
   (aB (cL PassesOwn.never rfl (Fg (K := K) rfl (by rfl) T.enumerate (ak (pv 0) aq)) (oh (K := K) (n := 2) rfl rfl (bL (aL (i := 2) fY.nd rfl (Or.inl rfl)) (bL (aL (i := 3) fY.nd rfl (Or.inl rfl)) nO)))
   (au (bz (aM J1 (pv 2) (Gh T.g_MOST_PARTS) (aW _)) (aB nW) aQ)
   (au (bz (aM jD (cJ (pv 3) rfl) (dm iD (pv 1) jf (cW (pv 2))) (by rfl)) (aB nW) aQ)
   (au (bz (gw (aV A_is_orphan G_is_orphan hr2 (ak (pv 3) (ak (pv 1) aq)))) (aB nW) aQ)
   (aB (bz (gw (aV A_is_clash G_is_clash hr5 (ak (pv 3) (ak (pv 1) aq)))) (aB nW) aQ)))))))), ?_⟩
  obtain ⟨xs, hl, hxl, hxt⟩ := id hps
  have h12 := g.hi
  have hx12 : xs.length ≤ sizeLine := Nat.le_trans (show xs.length ≤ 12 by omega) (by decide)
  refine ⟨_, rfl, l, rfl, ⟨_, SqL.of hl⟩, fu (fun i => ((adS ps).map V.str).getD i .non) hx12 (SqL.of hl) (fun i x H' Q' hx sm k => ?_) (fun H1 s1 b hb => ?_)⟩
  ·have hi : i < ps.length := by rw [← hxl]; exact (List.getElem?_eq_some_iff.mp hx).1
   obtain ⟨a, lr, e2, pa⟩ := hxt i ps[i] (List.getElem?_eq_getElem hi)
   obtain rfl : x = .ref a := by rw [hx] at e2; exact Option.some.inj e2
   obtain ⟨dx, fs, ea, a1, _⟩ := pa.same sm
   have k2 : Q' (((adS ps).map V.str).getD i .non) H' := k H' (az.refl _)
   rw [Gu hi] at k2
   exact ⟨_, rfl, rdF ea T.pt.cl.cl T.pt.na a1 k2⟩
  rw [zp hxl]
  have s2 : az H (upd H1 b (.lst ((adS ps).map V.str))) := s1.put hb
  have hb2 : (upd H1 b (.lst ((adS ps).map V.str))) b = some (.lst ((adS ps).map V.str)) := ao
  generalize upd H1 b (.lst ((adS ps).map V.str)) = H2 at s2 hb2
  have hfl : ∀ zs : List Str, (zs.map V.str).all cN = true := dC
  refine ⟨_, rfl, l, rfl, ⟨xs, SqL.of (s2 _ _ hl)⟩, ?_⟩
  refine Dt (xs := xs) (fun i σ H' => ∃ v2 v3, σ = [some (.ref l), some (.ref b), v2, v3] ∧ az H2 H') ⟨none, none, rfl, az.refl _⟩ (fun i σ H' hi hv => ?_) (fun i x p0 σ H' hx hv hp0 => ?_) (fun σ H' hv => ?_)
  ·obtain ⟨v2, v3, rfl, sm⟩ := hv
   exact SqL.of (sm _ _ (s2 _ _ hl))
  ·obtain ⟨v2, v3, rfl, sm⟩ := hv
   have hi : i < ps.length := by rw [← hxl]; exact (List.getElem?_eq_some_iff.mp hx).1
   have er : ps[i]? = some ps[i] := List.getElem?_eq_getElem hi
   obtain ⟨a, lr, e2, pa0⟩ := hxt i ps[i] er
   obtain rfl : x = .ref a := by rw [hx] at e2; exact Option.some.inj e2
   have gp := g.at er
   have s3 : az H (upd H' p0 (.tup [.int (0 + (i : Int)), .ref a])) := (s2.trans sm).put hp0
   have s23 : az H2 (upd H' p0 (.tup [.int (0 + (i : Int)), .ref a])) := sm.put hp0
   obtain ⟨dx, fs, ea, a1, _⟩ := pa0.same s3
   refine ⟨p0, _, rfl, SqT.of ao, rfl, _, _, rfl, _, _, rfl, rfl, ?_⟩
   refine ⟨_, rfl, _, _, rfl, rfl, _, rfl, bA (decide_eq_false (by omega)) ?_⟩
   refine ⟨_, rfl, rdF ea T.pt.cl.cl T.pt.na a1 ⟨_, rfl, _, rfl, _, rfl, b, _, rfl, SqL.of (s23 _ _ hb2), fun c hc => ?_⟩⟩
   have s4 : az H (upd (upd H' p0 (.tup [.int (0 + (i : Int)), .ref a])) c (.lst (fB ((adS ps).map V.str) none (some (0 + (i : Int)))))) := s3.put hc
   have s24 : az H2 (upd (upd H' p0 (.tup [.int (0 + (i : Int)), .ref a])) c (.lst (fB ((adS ps).map V.str) none (some (0 + (i : Int)))))) := s23.put hc
   have ec : fB ((adS ps).map V.str) none (some (0 + (i : Int))) = ((adS ps).take i).map V.str := by rw [Int.zero_add, Dy, List.map_take]
   have hc4 : (upd (upd H' p0 (.tup [.int (0 + (i : Int)), .ref a])) c (.lst (fB ((adS ps).map V.str) none (some (0 + (i : Int)))))) c = some (.lst (((adS ps).take i).map V.str)) := ao.trans (by rw [ec])
   generalize upd (upd H' p0 (.tup [.int (0 + (i : Int)), .ref a])) c (.lst (fB ((adS ps).map V.str) none (some (0 + (i : Int))))) = H4 at s4 s24 hc4
   refine ⟨c, ((adS ps).take i).map V.str, rfl, .inl (SqL.of hc4), rfl, hfl _, _, rfl, bA (zU g.nd er) ?_⟩
   refine ⟨_, rfl, _, rfl, a, lr, b, ps[i].ad, adS ps, ps[i].rs, rfl, pa0.same s4, gp.ad, s24 _ _ hb2, g.up _ (List.getElem_mem hi), fun H5 s5 => ⟨_, rfl, jy ?_⟩⟩
   refine ⟨_, rfl, _, rfl, a, lr, b, ps[i].ad, adS ps, ps[i].rs, rfl, pa0.same (s4.trans s5), gp.ad, gp.rs, (s24.trans s5) _ _ hb2, g.cl _ (List.getElem_mem hi), fun H6 s6 => ⟨_, rfl, jy ?_⟩⟩
   exact ⟨_, _, rfl, s24.trans (s5.trans s6)⟩
  ·obtain ⟨v2, v3, rfl, sm⟩ := hv
   exact q _ (s2.trans sm)
theorem my (T : Tx K mg C) (F : Fun K "__init__" "House.__init__" cC f fd) : aK P w K mg base CX0 7 f fd fM (BK C) := by
 obtain ⟨f_check_parts, fd_check_parts, A_check_parts⟩ := T.a_check_parts
 have G_check_parts : aK P w K mg base CX0 6 f_check_parts fd_check_parts fU (yK C) := rO T A_check_parts.F
 refine F.oq sY fun _ _ _ _ H _ Q E hr h => ?_
 ·obtain ⟨x, dx, d, ps, xs, rfl, hx, hl0, hps, g, q⟩ := h
  have hr6 : aR 6 _ := hr
  refine ⟨_, QSs.h (au (bU (aV A_check_parts G_check_parts hr6 (ak (pv 1) aq)))
   (aB (dI (pv 0) (dJ cD (by rfl) T.t_list PyProof.Rows.boot_list (ak (pv 1) aq))))), ?_⟩
  refine ⟨_, rfl, d, ps, rfl, ⟨xs, hl0, hps.1, hps.2⟩, g, fun H1 s1 => ?_⟩
  have hl := s1 _ _ hl0
  have hx1 := s1 _ _ hx
  refine ⟨_, rfl, d, _, rfl, .inl (SqL.of hl), fun l hl0 => ⟨_, rfl, x, _, dx, _, rfl, (by rw [aG (aF hx1 hl0)]; exact hx1), T.hs.cl.cl, T.hs.nt, Nat.lt_of_lt_of_le Nat.zero_lt_one (by decide), ?_⟩⟩
  have hlx : l ≠ x := (aF hx1 hl0).symm
  have sb : SameBut x H1 (upd (upd H1 l (.lst xs)) x (.ins (C 8) dx (ju "told" (.ref l) []))) := sb2 hl0
  exact q l _ (s1.free hl0) (fun bb o e hb => sb bb o (s1 _ _ e) hb) ⟨dx, _, ao, lkP, lkN (by decide +kernel), lkN (by decide +kernel), lkN (by decide +kernel)⟩ (by rw [aG hlx]; exact ao)
theorem gm (T : Tx K mg C) (F : Fun K "addresses" "House.addresses" bY f fd) : aK P w K mg base CX0 1 f fd bM (uL C) := by
 refine F.oq mY fun _ _ _ _ H _ Q E hr h => ?_
 ·obtain ⟨h0, l, ps, rfl, hh, g, q⟩ := h
  refine ⟨_, QSs.h (aB (aN (aY gB (by rfl) T.sorted PyProof.Rows.boot_sorted (ak (b7 (N := ["part"]) [none] rfl (by kernel_rfl) (bj (cJ (pv 0) rfl)) (fun cl C fp s H => (aL (i := 0) (by decide +kernel : (["part"] : List Str).Nodup) rfl (Or.inl rfl))) (fun cl C fp s H => eN) (fun cl C fp s H => (qF (K := K) rfl (pv 0) rfl))) aq)))), ?_⟩
  obtain ⟨dx, fs, ea, a1, a2, a3, a4, xs, hl, hxl, hxt⟩ := id hh
  have h12 := g.hi
  have hx12 : xs.length ≤ sizeLine := Nat.le_trans (show xs.length ≤ 12 by omega) (by decide)
  refine ⟨_, rfl, rdF ea T.hs.cl.cl T.hs.nt a1 ⟨l, rfl, ⟨_, SqL.of hl⟩, fu (fun i => ((adS ps).map V.str).getD i .non) hx12 (SqL.of hl) (fun i x H' Q' hx sm k => ?_) (fun H1 s1 b hb => ?_)⟩⟩
  ·have hi : i < ps.length := by rw [← hxl]; exact (List.getElem?_eq_some_iff.mp hx).1
   obtain ⟨a, lr, e2, pa⟩ := hxt i ps[i] (List.getElem?_eq_getElem hi)
   obtain rfl : x = .ref a := by rw [hx] at e2; exact Option.some.inj e2
   obtain ⟨dx, fs, ea, a1, _⟩ := pa.same sm
   have k2 : Q' (((adS ps).map V.str).getD i .non) H' := k H' (az.refl _)
   rw [Gu hi] at k2
   exact ⟨_, rfl, rdF ea T.pt.cl.cl T.pt.na a1 k2⟩
  have hlen : (adS ps).length = ps.length := by unfold adS; rw [List.length_map]
  refine ⟨b, adS ps, rfl, SqL.of (ao.trans (by rw [zp hxl])), by omega, fun c zs h1 h2 hc => ?_⟩
  exact q c _ zs (s1.free ((az.new hb).free hc)) ((s1.put hb).put hc) h1 h2 ao
theorem sO (T : Tx K mg C) (F : Fun K "has" "House.has" fV f fd) : aK P w K mg base CX0 1 f fd gF (CJ C) := by
 refine F.oq vM fun _ _ _ _ H _ Q E hr h => ?_
 ·obtain ⟨h0, l, ps, z, rfl, hh, g, q⟩ := h
  refine ⟨_, QSs.h (aB (aN (aY (wF rfl) (by rfl) T.any PyProof.Rows.boot_any (ak (b7 (N := ["part", "address"]) [none, some 1] rfl (by kernel_rfl) (bj (cJ (pv 0) rfl)) (fun cl C fp s H => (aL (i := 0) (by decide +kernel : (["part", "address"] : List Str).Nodup) rfl (Or.inl rfl))) (fun cl C fp s H => eN) (fun cl C fp s H => (iI dG (qF (K := K) rfl (pv 0) rfl) (pv 1) (aW _)))) aq)))), ?_⟩
  obtain ⟨dx, fs, ea, a1, a2, a3, a4, xs, hl, hxl, hxt⟩ := id hh
  have h12 := g.hi
  have hx12 : xs.length ≤ sizeLine := Nat.le_trans (show xs.length ≤ 12 by omega) (by decide)
  refine ⟨_, rfl, rdF ea T.hs.cl.cl T.hs.nt a1 ⟨l, rfl, ⟨_, SqL.of hl⟩, fu (fun i => V.bl (((adS ps).map fun y => decide (V.str y = V.str z)).getD i false)) hx12 (SqL.of hl) (fun i x H' Q' hx sm k => ?_) (fun H1 s1 b hb => ?_)⟩⟩
  ·have hi : i < ps.length := by rw [← hxl]; exact (List.getElem?_eq_some_iff.mp hx).1
   obtain ⟨a, lr, e2, pa⟩ := hxt i ps[i] (List.getElem?_eq_getElem hi)
   obtain rfl : x = .ref a := by rw [hx] at e2; exact Option.some.inj e2
   obtain ⟨dx, fs, ea, a1, _⟩ := pa.same sm
   have k2 : Q' (V.bl (((adS ps).map fun y => decide (V.str y = V.str z)).getD i false)) H' := k H' (az.refl _)
   have e : ((adS ps).map fun y => decide (V.str y = V.str z)).getD i false = decide (V.str (dotted ps[i].ad) = V.str z) := by simp [adS, List.getD, hi]
   rw [e] at k2
   exact ⟨_, rfl, rdF ea T.pt.cl.cl T.pt.na a1 ⟨_, rfl, rfl, k2⟩⟩
  have em : (List.range xs.length).map (fun i => V.bl (((adS ps).map fun y => decide (V.str y = V.str z)).getD i false)) = ((adS ps).map fun y => decide (V.str y = V.str z)).map V.bl := by
   have hlen : (adS ps).length = ps.length := by unfold adS; rw [List.length_map]
   apply List.ext_getElem
   ·simp [hxl, hlen]
   ·intro i h1 h2
    have : i < (adS ps).length := by simpa using h2
    simp [this]
  refine ⟨b, (adS ps).map fun y => decide (V.str y = V.str z), rfl, SqL.of (ao.trans (by rw [em])), ?_⟩
  have e : (((adS ps).map fun y => decide (V.str y = V.str z)).any id) = decide (z ∈ adS ps) := by
   rw [List.any_map]
   by_cases hz : z ∈ adS ps
   ·rw [decide_eq_true hz, List.any_eq_true]
    exact ⟨z, hz, decide_eq_true rfl⟩
   ·rw [decide_eq_false hz, List.any_eq_false]
    intro y hy k
    exact hz (V.str.inj (of_decide_eq_true k) ▸ hy)
  show Q (V.bl (((adS ps).map fun y => decide (V.str y = V.str z)).any id)) _
  rw [e]
  exact q _ (s1.put hb)
theorem p7 (T : Tx K mg C) (F : Fun K "part" "House.part" dY f fd) : aK P w K mg base (CX1 P w) 3 f fd fW (yQ C) := by
 obtain ⟨f_i_NoPart, fd_i_NoPart, A_i_NoPart⟩ := T.i_NoPart
 have G_i_NoPart : aK P w K mg base CX0 1 f_i_NoPart fd_i_NoPart fc (Bq (C 21) "address") := pM T A_i_NoPart.F
 refine F.oqX mJ fun _ _ _ _ H _ Q E hr h => ?_
 ·obtain ⟨h0, l, ps, z, rfl, hh, g, hz, q, qe⟩ := h
  have hr2 : aR 2 _ := hr
  refine ⟨_, QSs.h (au (cL PassesOwn.leaving rfl (bj (cJ (pv 0) rfl)) (aL (i := 2) mJ.nd rfl (Or.inl rfl))
   (aB (bz (aM dG (cJ (pv 2) rfl) (pv 1) (aW _)) (aB (aN (pv 2))) aQ)))
   (aB (wA jw rfl (Gs A_i_NoPart G_i_NoPart hr2 T.c_NoPart T.xn (ak (pv 1) aq))))), ?_⟩
  obtain ⟨dx, fs, ea, a1, a2, a3, a4, xs, hl, hxl, hxt⟩ := id hh
  refine ⟨_, rfl, rdF ea T.hs.cl.cl T.hs.nt a1 ⟨l, rfl, ⟨xs, SqL.of hl⟩, ?_⟩⟩
  refine cu (xs := xs) (fun i σ H' => ∃ v2, σ = [some (.ref h0), some (.str z), v2] ∧ az H H' ∧ ∀ (j : Nat) p, j < i → ps[j]? = some p → ¬ dotted p.ad = z) ⟨none, rfl, az.refl _, fun j p hj => absurd hj (Nat.not_lt_zero _)⟩ ?_ ?_ ?_
  ·rintro i σ H' _ ⟨v2, rfl, sm, _⟩
   exact SqL.of (sm _ _ hl)
  ·rintro i x σ H' hx ⟨v2, rfl, sm, hb⟩
   have hi : i < ps.length := by rw [← hxl]; exact (List.getElem?_eq_some_iff.mp hx).1
   have er : ps[i]? = some ps[i] := List.getElem?_eq_getElem hi
   obtain ⟨a, lr, e2, pa⟩ := hxt i ps[i] er
   obtain rfl : x = .ref a := by rw [hx] at e2; exact Option.some.inj e2
   obtain ⟨dy, gs, eb, b1, _⟩ := pa.same sm
   refine ⟨_, rfl, rdF eb T.pt.cl.cl T.pt.na b1 ⟨_, rfl, rfl, _, rfl, gh (fun hy => ?_) (fun hn => ?_)⟩⟩
   ·exact ⟨_, rfl, q i _ a lr H' sm er (V.str.inj hy) (pa.same sm)⟩
   ·refine ⟨_, rfl, sm, fun j p hj e => ?_⟩
    rcases Nat.lt_or_ge j i with k | k
    ·exact hb j p k e
    ·obtain rfl : j = i := by omega
     rw [er] at e
     cases e
     exact fun z => hn (congrArg V.str z)
  ·rintro σ H' ⟨v2, rfl, sm, hb⟩
   have hno : z ∉ adS ps := fun hm => by
    obtain ⟨p, hp, e⟩ := List.mem_map.mp hm
    obtain ⟨j, hj, ej⟩ := List.getElem_of_mem hp
    exact hb j p (by omega) (by rw [List.getElem?_eq_getElem hj, ej]) e
   refine ⟨_, rfl, fun x hx => ⟨x, .str z, rfl, ao, ⟨z, rfl, hz⟩, fun p hp hne => ⟨rfl, x, C 21, some p, rfl, ao, T.xn, ?_⟩⟩⟩
   have s1 : az H' (upd (upd (upd (upd H' x (ExO true x (C 21) none)) p (XdO p [("address", .str z)])) x (ExO true x (C 21) (some p))) x (ExO false x (C 21) (some p))) := (((az.new hx).put hp).over hx).over hx
   exact qe hno x _ (sm.trans s1) ⟨p, ao, by rw [aG hne, aG hne]; exact ao⟩
theorem vV (T : Tx K mg C) (F : Fun K "named_by" "named_by" jQ f fd) : aK P w K mg base CX0 4 f fd jJ (yS C) := by
 obtain ⟨f_prefixes, fd_prefixes, A_prefixes⟩ := T.a_prefixes
 have G_prefixes : aK P w K mg base CX0 1 f_prefixes fd_prefixes iZ qw := vZ T A_prefixes.F
 refine F.oq nA fun _ _ _ _ H _ Q E hr h => ?_
 ·obtain ⟨a, t, r, rfl, ra, gr, q⟩ := h
  have hr1 : aR 1 _ := hr.mono (by decide)
  have hr3 : aR 3 _ := hr
  refine ⟨_, QSs.h (au (aP (i := 1) nA.nd rfl (Or.inl rfl) (bH aq))
   (au (cL PassesOwn.never rfl (bj (wQ (P := P) (w := w) (K := K) (mg := mg) (base := base) rfl rfl rfl rfl rfl hr3 (pv 0))) (aL (i := 2) nA.nd rfl (Or.inl rfl))
   (au (bU (dD PySem.F.plainAttrs_list PySem.F.slot_list_extend PySem.F.type_list_extend oZ (pv 1) (ak (aV A_prefixes G_prefixes hr1 (ak (pv 2) aq)) aq)))
   (aB (bz (gw (aY yz (by rfl) T.inst PyProof.Rows.boot_isinstance (ak (pv 0) (ak (Tv T.c_Take) aq)))) (aB (bU (dD PySem.F.plainAttrs_list PySem.F.slot_list_append PySem.F.type_list_append fG (pv 1) (ak (aU bB (aU bB (pv 2) aJ) (cJ (pv 0) rfl)) aq)))) aQ))))
   (aB (aN (pv 1))))), ?_⟩
  refine ⟨by show 0 ≤ sizeLine; decide, fun F hF => ?_⟩
  have s1 : az H (upd H F (.lst [])) := az.new hF
  have hF1 : (upd H F (.lst [])) F = some (.lst []) := ao
  generalize upd H F (.lst []) = H1 at s1 hF1
  refine ⟨_, rfl, rdA T (ra.same s1) gr (fun b H2 hb s2 hb2 => ?_)⟩
  refine ⟨b, rfl, ⟨_, SqL.of hb2⟩, ?_⟩
  have s02 := s1.trans s2
  have hF2 := s2 _ _ hF1
  have hFb : b ≠ F := (aF hF1 hb).symm
  have ha1 : (dw r).length ≤ 1 := by unfold dw; split <;> simp
  refine cu (xs := (dw r).map V.str) (fun i σ H' => ∃ v2, σ = [some (.ref a), some (.ref F), v2] ∧ az H H' ∧ H' b = some (.lst ((dw r).map V.str)) ∧ H' F = some (.lst ((((dw r).take i).flatMap fun ad => mz ad ++ (if r.so = 4 then [ad ++ "." ++ r.wd] else [])).map V.str))) ⟨none, rfl, s02, hb2, by simpa using hF2⟩ ?_ ?_ ?_
  ·rintro i σ H' _ ⟨v2, rfl, sm, hb', _⟩
   exact SqL.of hb'
  ·rintro i x σ H' hx ⟨v2, rfl, sm, hb', hF'⟩
   rw [List.getElem?_map] at hx
   obtain ⟨ad, ead, rfl⟩ : ∃ ad, (dw r)[i]? = some ad ∧ x = V.str ad := by
    cases e : (dw r)[i]? with
    | none => rw [e] at hx; cases hx
    | some y => rw [e] at hx; cases hx; exact ⟨y, rfl, rfl⟩
   have hi0 : i = 0 := by have := (List.getElem?_eq_some_iff.mp ead).1; omega
   have e1 : ad = r.ad := by
    have := List.mem_of_getElem? ead
    unfold dw at this
    split at this
    ·simpa using this
    ·simp at this
   obtain ⟨ys, gy, ey⟩ := gr.ad
   rw [oW ead]
   subst hi0
   subst e1
   rw [List.take_zero, List.flatMap_nil, List.nil_append]
   have hF0 : H' F = some (.lst []) := hF'
   refine ⟨_, rfl, .inl ⟨rfl, _, SqL.of hF0⟩, _, rfl, ys, (show [V.str r.ad] = [V.str (dotted ys)] by rw [ey]), gy, fun p H3 hp s3 hp3 => ⟨F, p, _, _, rfl, rfl, s3 _ _ hF0, hp3, Nat.le_trans (show 0 + ((dM ys).map V.str).length ≤ 3 by rw [List.length_map, gW]; have := gy.hi; omega) (by decide), ?_⟩⟩
   rw [List.nil_append, ← lY gy, ← ey]
   have hl4 : ((mz r.ad).map V.str).length < 1000 := by rw [ey, lY gy, List.length_map, gW]; have := gy.hi; omega
   have s4 : az H (upd H3 F (.lst ((mz r.ad).map V.str))) := (sm.trans s3).over hF
   have hF4 : (upd H3 F (.lst ((mz r.ad).map V.str))) F = some (.lst ((mz r.ad).map V.str)) := ao
   have hb4 : (upd H3 F (.lst ((mz r.ad).map V.str))) b = some (.lst ((dw r).map V.str)) := by rw [aG hFb]; exact s3 _ _ hb'
   generalize upd H3 F (.lst ((mz r.ad).map V.str)) = H4 at s4 hF4 hb4
   obtain ⟨dx, fs, era, hf⟩ := id (ra.same s4)
   have kt := T.fam.kit r.so 4 (Nat.le_trans gr.so (by decide)) (by decide)
   have ty : mC K H4 (.ref a) (.ref (C r.so)) := (T.fam.c r.so (Nat.le_trans gr.so (by decide))).ty era
   by_cases h4 : r.so = 4
   ·have hk : pQ r.so 4 = true := by rw [h4]; rfl
    rw [hk] at kt
    rw [if_pos h4]
    have hw := hf.wd h4
    rw [h4] at era
    refine ⟨_, rfl, _, _, _, _, rfl, ty, kt, _, rfl, De ?_⟩
    have h36 : r.ad.length ≤ 36 := by rw [ey]; exact gy.len
    refine ⟨_, rfl, .inl ⟨rfl, _, SqL.of hF4⟩, _, rfl, _, _, rfl, rfl, abS h36 lA, _, rfl, rdF era (T.fam.c 4 (by decide)).cl (T.fam.nw 4 (by decide)) hw ⟨_, _, rfl, rfl, abS (alS h36 lA) gr.wd.hi, F, _, _, rfl, rfl, hF4, Nat.lt_of_lt_of_le hl4 bZ, ?_⟩⟩
    exact ⟨_, rfl, s4.over hF, by rw [aG hFb]; exact hb4, ao.trans (by rw [List.map_append]; rfl)⟩
   ·have hk : pQ r.so 4 = false := by unfold pQ; rw [decide_eq_false h4]; rfl
    rw [hk] at kt
    rw [if_neg h4, List.append_nil]
    exact ⟨_, rfl, _, _, _, _, rfl, ty, kt, _, rfl, jy ⟨_, rfl, s4, hb4, hF4⟩⟩
  ·rintro σ H' ⟨v2, rfl, sm, hb', hF'⟩
   rw [List.length_map, List.take_length] at hF'
   exact ⟨_, rfl, q F H' hF sm hF'⟩
theorem mG (T : Tx K mg C) (F : Fun K "check_part" "check_part" gP f fd) : aK P w K mg base (CX1 P w) 3 f fd dZ (GX C) := by
 obtain ⟨f_i_NoPart, fd_i_NoPart, A_i_NoPart⟩ := T.i_NoPart
 have G_i_NoPart : aK P w K mg base CX0 1 f_i_NoPart fd_i_NoPart fc (Bq (C 21) "address") := pM T A_i_NoPart.F
 obtain ⟨f_hhas, fd_hhas, A_hhas, M_hhas⟩ := T.m_House_has
 have G_hhas : aK P w K mg base CX0 1 f_hhas fd_hhas gF (CJ C) := sO T A_hhas.F
 refine F.oqX uB fun _ _ _ _ H _ Q E hr h => ?_
 ·obtain ⟨h0, l, ps, z, rfl, hh, g, hz, q, qe⟩ := h
  have hr1 : aR 1 _ := hr.mono (by decide)
  have hr2 : aR 2 _ := hr
  refine ⟨_, QSs.h (aB (bz (kZ (gw (Ew (pv 0) T.hs.cl.cl M_hhas G_hhas hr1 A_hhas.b .nil pK (ak (pv 1) aq)))) (aB (wA jw rfl (Gs A_i_NoPart G_i_NoPart hr2 T.c_NoPart T.xn (ak (pv 1) aq)))) aQ)), ?_⟩
  obtain ⟨dx, fs, ea, a1, a2, a3, a4, _⟩ := id hh
  refine ⟨_, rfl, h0, dx, fs, rfl, ea, a3, _, rfl, h0, l, ps, z, rfl, hh, g, fun H' sm => ⟨_, rfl, ?_⟩⟩
  by_cases hin : z ∈ adS ps
  ·exact bA (by rw [decide_eq_true hin]; rfl) (q hin H' sm)
  ·refine gj (by rw [decide_eq_false hin]; rfl) ?_
   refine ⟨_, rfl, fun x hx => ⟨x, .str z, rfl, ao, ⟨z, rfl, hz⟩, fun p hp hne => ⟨rfl, x, C 21, some p, rfl, ao, T.xn, ?_⟩⟩⟩
   have s1 : az H' (upd (upd (upd (upd H' x (ExO true x (C 21) none)) p (XdO p [("address", .str z)])) x (ExO true x (C 21) (some p))) x (ExO false x (C 21) (some p))) := (((az.new hx).put hp).over hx).over hx
   exact qe hin x _ (sm.trans s1) ⟨p, ao, by rw [aG hne, aG hne]; exact ao⟩
theorem Eb (T : Tx K mg C) (F : Fun K "links" "links" qi f fd) : aK P w K mg base (CX1 P w) 5 f fd n8 (zg C) := by
 obtain ⟨f_parent_of, fd_parent_of, A_parent_of⟩ := T.a_parent_of
 have G_parent_of : aK P w K mg base CX0 1 f_parent_of fd_parent_of f9 su := oA T A_parent_of.F
 obtain ⟨f_named_by, fd_named_by, A_named_by⟩ := T.a_named_by
 have G_named_by : aK P w K mg base CX0 4 f_named_by fd_named_by jJ (yS C) := vV T A_named_by.F
 obtain ⟨f_haddresses, fd_haddresses, A_haddresses, M_haddresses⟩ := T.m_House_addresses
 have G_haddresses : aK P w K mg base CX0 1 f_haddresses fd_haddresses bM (uL C) := gm T A_haddresses.F
 obtain ⟨f_hpart, fd_hpart, A_hpart, M_hpart⟩ := T.m_House_part
 have G_hpart : aK P w K mg base (CX1 P w) 3 f_hpart fd_hpart fW (yQ C) := p7 T A_hpart.F
 refine F.oqX nY fun _ _ _ _ H _ Q E hr h => ?_
 ·obtain ⟨h0, l, ps, z, rfl, hh, g, hz, q, qe⟩ := h
  have hr1 : aR 1 _ := hr.mono (by decide)
  have hr3 : aR 3 _ := hr.mono (by decide)
  have hr4 : aR 4 _ := hr
  refine ⟨_, QSs.h (au (aP (i := 2) nY.nd rfl (Or.inl rfl) (DY (pv 0) T.hs.cl.cl M_hpart G_hpart hr3 A_hpart.b jw (ak (pv 1) aq)))
   (au (aP (i := 3) nY.nd rfl (Or.inr rfl) (bH (ak (aV A_parent_of G_parent_of hr1 (ak (pv 1) aq)) aq)))
   (au (cL PassesOwn.leaving rfl (bj (cJ (pv 2) rfl)) (aL (i := 4) nY.nd rfl (Or.inl rfl))
   (aB (bU (dD PySem.F.plainAttrs_list PySem.F.slot_list_extend PySem.F.type_list_extend oZ (pv 3) (ak (aV A_named_by G_named_by hr4 (ak (pv 4) aq)) aq)))))
   (aB (aN (b7 (N := ["one", "named"]) [none, some 3] rfl (by kernel_rfl) (bj (rQ (pv 0) T.hs.cl.cl M_haddresses G_haddresses hr1 A_haddresses.b .nil pK)) (fun cl C fp s H => (aL (i := 0) (by decide +kernel : (["one", "named"] : List Str).Nodup) rfl (Or.inl rfl))) (fun cl C fp s H => (jH (aM (uM (K := K) rfl) (pv 0) (pv 1) (by rfl)))) (fun cl C fp s H => (pv 0)))))))), ?_⟩
  obtain ⟨dx, fs, ea, a1, a2, a3, a4, _⟩ := id hh
  refine ⟨_, rfl, h0, dx, fs, rfl, ea, a4, _, rfl, h0, l, ps, z, rfl, hh, g, hz, fun i p a lr H1 s1 ei ez pa => ?_, qe⟩
  have q1 := q i p ei ez
  clear q qe
  subst ez
  have gp := g.at ei
  refine ⟨_, rfl, p.ad, rfl, gp.ad, fun H2 s2 => ⟨by show 1 ≤ sizeLine; decide, fun F hF => ?_⟩⟩
  have s02 := s1.trans s2
  have hF0 : H F = none := s02.free hF
  have s3 : az H2 (upd H2 F (.lst [V.str (jK p.ad)])) := az.new hF
  have hF3 : (upd H2 F (.lst [V.str (jK p.ad)])) F = some (.lst [V.str (jK p.ad)]) := ao
  generalize upd H2 F (.lst [V.str (jK p.ad)]) = H3 at s3 hF3
  have pa2 := pa.same s2
  obtain ⟨dp, fp, eb, b1, b2, b3, b4, b5, xs, hl, hxl, hxt⟩ := id pa2
  have h12 := gp.rs.hi
  refine ⟨_, rfl, rdF (s3 _ _ eb) T.pt.cl.cl T.pt.nr b2 ⟨lr, rfl, ⟨_, SqL.of (s3 _ _ hl)⟩, ?_⟩⟩
  refine cu (xs := xs) (fun k σ H' => ∃ v4, σ = [some (.ref h0), some (.str (dotted p.ad)), some (.ref a), some (.ref F), v4] ∧ az H2 H' ∧ H' F = some (.lst ((jK p.ad :: (p.rs.take k).flatMap dR).map V.str))) ⟨none, rfl, s3, hF3⟩ ?_ ?_ ?_
  ·rintro k σ H' _ ⟨v4, rfl, sm, hF'⟩
   exact SqL.of (sm _ _ hl)
  ·rintro k x σ H' hx ⟨v4, rfl, sm, hF'⟩
   have hk : k < p.rs.length := by rw [← hxl]; exact (List.getElem?_eq_some_iff.mp hx).1
   have er : p.rs[k]? = some p.rs[k] := List.getElem?_eq_getElem hk
   obtain ⟨ra, t, e2, rat⟩ := hxt k _ er
   obtain rfl : x = .ref ra := by rw [hx] at e2; exact Option.some.inj e2
   have gr := gp.rs.at er
   have h4 := t8 gr
   have h5 := zT (rs := p.rs.take k) fun r hr => gp.rs.ok r (List.mem_of_mem_take hr)
   have h6 : (p.rs.take k).length ≤ 12 := Nat.le_trans (List.length_take_le' _ _) h12
   refine ⟨_, rfl, .inl ⟨rfl, _, SqL.of hF'⟩, _, rfl, ra, t, p.rs[k], rfl, rat.same sm, gr, fun b H5 hb s5 hb5 => ⟨F, b, _, _, rfl, rfl, s5 _ _ hF', hb5, Nat.le_trans (show ((jK p.ad :: (p.rs.take k).flatMap dR).map V.str).length + ((dR p.rs[k]).map V.str).length ≤ 60 by rw [List.length_map, List.length_map, List.length_cons]; omega) (by decide), ?_⟩⟩
   exact ⟨_, rfl, (sm.trans s5).over hF, ao.trans (by rw [oW er, ← List.map_append, List.cons_append])⟩
  ·rintro σ H' ⟨v4, rfl, sm, hF'⟩
   rw [hxl, List.take_length] at hF'
   have s0' := s02.trans sm
   refine ⟨_, rfl, h0, dx, fs, rfl, s0' _ _ ea, a2, h0, l, ps, rfl, hh.same s0', g, fun b H6 zs hb s6 hz1 hz2 hb6 => ⟨b, rfl, ⟨_, SqL.of hb6⟩, ?_⟩⟩
   have hzl : zs.length ≤ 12 := by rw [hz1.length_eq]; unfold adS; rw [List.length_map]; exact g.hi
   have hfl : ∀ zs : List Str, (zs.map V.str).all cN = true := dC
   refine bV (xs := zs.map V.str) (fun v => inV v ((linked p).map V.str)) (Nat.le_trans (show (zs.map V.str).length ≤ 12 by rw [List.length_map]; exact hzl) (by decide)) (SqL.of hb6) (fun x H7 Q' hx s7 k => ?_) (fun x H7 Q' hx s7 k => ?_) (fun H7 s7 c hc => ?_)
   ·obtain ⟨y, _, rfl⟩ := List.mem_map.mp hx
    exact ⟨_, rfl, _, rfl, F, _, rfl, .inl (SqL.of ((s6.trans s7) _ _ hF')), rfl, hfl _, _, rfl, k H7 (az.refl _)⟩
   ·exact ⟨_, rfl, k H7 (az.refl _)⟩
   rw [yR]
   exact q1 c _ zs ((s0'.trans (s6.trans s7)).free hc) ((s0'.trans (s6.trans s7)).put hc) hz1 hz2 ao
theorem oG (T : Tx K mg C) (F : Fun K "all_links" "all_links" iQ f fd) : aK P w K mg base CX0 6 f fd gf (Bg C) := by
 obtain ⟨f_links, fd_links, A_links⟩ := T.a_links
 have G_links : aK P w K mg base (CX1 P w) 5 f_links fd_links n8 (zg C) := Eb T A_links.F
 obtain ⟨f_haddresses, fd_haddresses, A_haddresses, M_haddresses⟩ := T.m_House_addresses
 have G_haddresses : aK P w K mg base CX0 1 f_haddresses fd_haddresses bM (uL C) := gm T A_haddresses.F
 refine F.oq lM fun _ _ _ _ H _ Q E hr h => ?_
 ·obtain ⟨h0, l, ps, rfl, hh, g, q⟩ := h
  have hr1 : aR 1 _ := hr.mono (by decide)
  have hr5 : aR 5 _ := hr
  refine ⟨_, QSs.h (au (aP (i := 1) lM.nd rfl (Or.inl rfl) jF)
   (au (cL PassesOwn.never rfl (bj (rQ (pv 0) T.hs.cl.cl M_haddresses G_haddresses hr1 A_haddresses.b .nil pK)) (aL (i := 2) lM.nd rfl (Or.inl rfl))
   (aB (QS.mk (iG (aR.u1 hr) (pv 1) (pv 2) (lq A_links G_links hr5 nD (ak (pv 0) (ak (pv 2) aq))) rfl))))
   (aB (aN (pv 1))))), ?_⟩
  refine fun R hR => ?_
  have s1 : az H (upd H R (.dK [])) := az.new hR
  have hR1 : (upd H R (.dK [])) R = some (.dK []) := ao
  generalize upd H R (.dK []) = H1 at s1 hR1
  obtain ⟨dx, fs, ea, a1, a2, a3, a4, _⟩ := id hh
  refine ⟨_, rfl, h0, dx, fs, rfl, s1 _ _ ea, a2, h0, l, ps, rfl, hh.same s1, g, fun b H2 zs hb s2 hz1 hz2 hb2 => ⟨b, rfl, ⟨_, SqL.of hb2⟩, ?_⟩⟩
  have hR2 := s2 _ _ hR1
  have hbR : b ≠ R := (aF hR1 hb).symm
  have hzn : zs.Nodup := hz1.nodup_iff.mpr g.nd
  have hzl : zs.length ≤ 12 := by rw [hz1.length_eq]; unfold adS; rw [List.length_map]; exact g.hi
  refine cu (xs := zs.map V.str) (fun i σ H' => ∃ v2, σ = [some (.ref h0), some (.ref R), v2] ∧ az H H' ∧ H' b = some (.lst (zs.map V.str)) ∧ gk H' R (zs.take i) (lN ps zs)) ⟨none, rfl, s1.trans s2, hb2, [], hR2, rfl, fun z hz => by cases hz⟩ ?_ ?_ ?_
  ·rintro i σ H' _ ⟨v2, rfl, sm, hb', _⟩
   exact SqL.of hb'
  ·rintro i y σ H' hy ⟨v2, rfl, sm, hb', lk⟩
   obtain ⟨z, ez, rfl⟩ : ∃ z, zs[i]? = some z ∧ y = V.str z := by
    rw [List.getElem?_map] at hy
    cases e : zs[i]? with
    | none => rw [e] at hy; cases hy
    | some z => rw [e] at hy; cases hy; exact ⟨z, rfl, rfl⟩
   have hz : z ∈ adS ps := hz1.mem_iff.mp (List.mem_of_getElem? ez)
   have hzi : z ∉ zs.take i := fun hm => by
    obtain ⟨j, hj, ej⟩ := List.getElem_of_mem hm
    have hji : j < i := Nat.lt_of_lt_of_le hj (List.length_take_le i zs)
    have e2 : zs[j]? = some z := by
     have := List.getElem?_eq_getElem hj
     rw [ej, List.getElem?_take] at this
     simpa [hji] using this
    have := (List.getElem?_inj (List.getElem?_eq_some_iff.mp e2).1 hzn).mp (e2.trans ez.symm)
    omega
   obtain ⟨p0, hp0, e0⟩ := List.mem_map.mp hz
   have hzlen : z.length ≤ 1000 := by rw [← e0]; exact Nat.le_trans (g.ok p0 hp0).ad.len (by decide)
   refine ⟨_, rfl, _, rfl, h0, l, ps, z, rfl, hh.same sm, g, hzlen, fun j p ej ez2 c H3 zs2 hc s3 hz3 hz4 hc3 => ?_, fun hno => absurd hz hno⟩
   obtain rfl : zs2 = zs := qW (hz3.trans hz1.symm) hz4 hz2
   have hc3 : H3 c = some (.lst ((lN ps zs2 z).map V.str)) := by rw [hc3, ← ez2, zy g.nd ej]
   obtain ⟨kvs, hk1, hk2, lk2⟩ := (lk.same s3).more hzi hc3
   have htl : (zs2.take i).length ≤ 12 := Nat.le_trans (List.length_take_le' _ _) hzl
   refine ⟨_, rfl, _, rfl, R, _, rfl, nJ.k (k := .inr z) hk1 (Nat.lt_of_lt_of_le (show kvs.length < 1000 by omega) bZ), ?_⟩
   rw [List.take_succ, ez]
   exact ⟨_, rfl, (sm.trans s3).over hR, by rw [aG hbR]; exact s3 _ _ hb', lk2⟩
  ·rintro σ H' ⟨v2, rfl, sm, hb', lk⟩
   rw [List.length_map, List.take_length] at lk
   exact ⟨_, rfl, q R H' zs hz1 hz2 hR sm lk⟩
theorem xJ (T : Tx K mg C) (F : Fun K "reached" "reached" lZ f fd) : aK P w K mg base CX0 1 f fd jN ue := by
 refine F.oq kh fun _ _ _ _ H _ Q E hr h => ?_
 ·obtain ⟨R, a, zs, nb, rfl, lk, g, ha, q⟩ := h
  refine ⟨_, QSs.h (au (aP (i := 2) kh.nd rfl (Or.inl rfl) (dJ cD (by rfl) T.t_list PyProof.Rows.boot_list (ak (cV (aR.u1 hr) (pv 0) (pv 1) (fun _ _ => rfl)) aq)))
   (au (aP (i := 3) kh.nd rfl (Or.inl rfl) jF)
   (au (QS.mk (qL PassesOwn.never (aM yZ (aY aZ (by rfl) T.len PySem.boot_len (ak (pv 2) aq)) aA (aW _)) (QSs.h (au (aP (i := 4) kh.nd rfl (Or.inl rfl) (Dq PySem.F.plainAttrs_list PySem.F.slot_list_pop PySem.F.type_list_pop HY (pv 2)))
   (aB (bz (Dd (uv (aR.u1 hr) (pv 4) (pv 3))) (au (QS.mk (iG (aR.u1 hr) (pv 3) (pv 4) gZ rfl))
   (aB (bU (dD PySem.F.plainAttrs_list PySem.F.slot_list_extend PySem.F.type_list_extend oZ (pv 2) (ak (cV (aR.u1 hr) (pv 0) (pv 4) (fun _ _ => rfl)) aq))))) aQ))))))
   (aB (aN (aY (u0 rfl) (by rfl) T.sorted PyProof.Rows.boot_sorted (ak (pv 3) aq))))))), ?_⟩
  obtain ⟨l0, dg, hl0⟩ := lk.get ha
  refine ⟨_, rfl, _, rfl, R, _, rfl, dg, l0, _, rfl, .inl (SqL.of hl0), fun A hA => ?_⟩
  have s1 : az H (upd H A (.lst ((nb a).map V.str))) := az.new hA
  have hA1 : (upd H A (.lst ((nb a).map V.str))) A = some (.lst ((nb a).map V.str)) := ao
  generalize upd H A (.lst ((nb a).map V.str)) = H1 at s1 hA1
  refine fun F hF => ?_
  have hFA : F ≠ A := (aF hA1 hF).symm
  have hF0 : H F = none := s1.free hF
  have s2 : az H (upd H1 F (.dK [])) := s1.put hF
  have hA2 : (upd H1 F (.dK [])) A = some (.lst ((nb a).map V.str)) := (az.new hF) _ _ hA1
  have hF2 : (upd H1 F (.dK [])) F = some (.dK []) := ao
  generalize upd H1 F (.dK []) = H2 at s2 hA2 hF2
  refine ⟨LK H R A F a zs nb, ⟨_, nb a, [], [], none, rfl, s2, hA2, hF2, rfl, List.nodup_nil, fun x hx => .one hx, (fun x hx => by cases hx), fun y hy => .inl hy, (fun x hx => by cases hx), by have := g.len ha; simp; omega, rfl⟩, ?_⟩
  rintro m σ H' ⟨as, fs, kvs, v, rfl, sm, hA', hF', hk, hnd, has, hfs, hna, hcl, hla, rfl⟩
  have hfz : ∀ x ∈ fs, x ∈ zs := fun x hx => (hfs x hx).mem g ha
  have hfl : fs.length ≤ zs.length := jo hnd hfz
  have h12 := g.hi
  refine ⟨_, rfl, A, _, rfl, .inl (SqL.of hA'), _, _, rfl, rfl, _, rfl, gh (fun hpos => ?_) (fun hneg => ?_)⟩
  ·refine ⟨fun σ' H'' => ∃ m', m' < 13 * (zs.length - fs.length) + as.length ∧ LK H R A F a zs nb m' σ' H'', fun _ _ z => z, ?_⟩
   have hne : as ≠ [] := fun z => by rw [z] at hpos; exact absurd hpos (by decide)
   obtain ⟨bs, x, rfl⟩ : ∃ bs x, as = bs ++ [x] := ⟨as.dropLast, as.getLast hne, (List.dropLast_concat_getLast hne).symm⟩
   have hx := has x (by simp)
   have hxz := hx.mem g ha
   have hlast : ((bs ++ [x]).map V.str)[((bs ++ [x]).map V.str).length - 1]? = some (V.str x) := by simp
   have hdrop : ((bs ++ [x]).map V.str).dropLast = bs.map V.str := by rw [List.map_append]; exact List.dropLast_concat
   have hl1 : (bs ++ [x]).length = bs.length + 1 := by simp
   refine ⟨_, rfl, .inl ⟨rfl, _, SqL.of hA'⟩, A, _, _, rfl, rfl, hA', hlast, ?_⟩
   rw [hdrop]
   have sA : az H (upd H' A (.lst (bs.map V.str))) := sm.over hA
   have hA3 : (upd H' A (.lst (bs.map V.str))) A = some (.lst (bs.map V.str)) := ao
   have hF3 : (upd H' A (.lst (bs.map V.str))) F = some (.dK kvs) := by rw [aG hFA]; exact hF'
   generalize upd H' A (.lst (bs.map V.str)) = H3 at sA hA3 hF3
   refine ⟨_, rfl, _, rfl, F, _, rfl, lD.k (k := .inr x) hF3, _, rfl, ?_⟩
   rw [has_key hk x]
   by_cases hin : x ∈ fs
   ·refine bA (by rw [decide_eq_true hin]; rfl) ?_
    refine ⟨_, (by omega), bs, fs, kvs, _, rfl, sA, hA3, hF3, hk, hnd, fun y hy => has y (by simp [hy]), hfs, fun y hy => ?_, fun z hz y hy => ?_, by omega, rfl⟩
    ·rcases hna y hy with k | k
     ·rcases List.mem_append.mp k with k | k
      ·exact .inl k
      ·rw [List.mem_singleton.mp k]; exact .inr hin
     ·exact .inr k
    ·rcases hcl z hz y hy with k | k
     ·rcases List.mem_append.mp k with k | k
      ·exact .inl k
      ·rw [List.mem_singleton.mp k]; exact .inr hin
     ·exact .inr k
   ·refine gj (by rw [decide_eq_false hin]; rfl) ?_
    have hkl := qO hk
    refine ⟨_, rfl, _, rfl, F, _, rfl, nJ.k (k := .inr x) hF3 (Nat.lt_of_lt_of_le (show kvs.length < 1000 by omega) bZ), ?_⟩
    have sB : az H (upd H3 F (.dK (putK kvs (.inr x) (.bl true)))) := sA.over hF0
    have hA4 : (upd H3 F (.dK (putK kvs (.inr x) (.bl true)))) A = some (.lst (bs.map V.str)) := by rw [aG hFA.symm]; exact hA3
    have hF4 : (upd H3 F (.dK (putK kvs (.inr x) (.bl true)))) F = some (.dK (putK kvs (.inr x) (.bl true))) := ao
    generalize upd H3 F (.dK (putK kvs (.inr x) (.bl true))) = H4 at sB hA4 hF4
    obtain ⟨l, dg4, hl4⟩ := (lk.same sB).get hxz
    have hnl := g.len hxz
    refine ⟨_, rfl, .inl ⟨rfl, _, SqL.of hA4⟩, _, rfl, _, rfl, R, _, rfl, dg4, A, l, _, _, rfl, rfl, hA4, hl4, Nat.le_trans (show (bs.map V.str).length + ((nb x).map V.str).length ≤ 1000 by rw [List.length_map, List.length_map]; omega) ik, ?_⟩
    have hfl2 : (fs ++ [x]).length ≤ zs.length := jo (nT hnd hin) fun y hy => by
     rcases List.mem_append.mp hy with k | k
     ·exact hfz y k
     ·rw [List.mem_singleton.mp k]; exact hxz
    have hfl3 : (fs ++ [x]).length = fs.length + 1 := by simp
    have hbl : (bs ++ nb x).length = bs.length + (nb x).length := List.length_append
    refine ⟨13 * (zs.length - (fs ++ [x]).length) + (bs ++ nb x).length, by omega, bs ++ nb x, fs ++ [x], _, _, rfl, sB.over hA, ao.trans (by rw [List.map_append]), by rw [aG hFA]; exact hF4, rG hk hin _, nT hnd hin, fun y hy => ?_, fun y hy => ?_, fun y hy => ?_, fun z hz y hy => ?_, by omega, rfl⟩
    ·rcases List.mem_append.mp hy with k | k
     ·exact has y (by simp [k])
     ·exact .more hx k
    ·rcases List.mem_append.mp hy with k | k
     ·exact hfs y k
     ·rw [List.mem_singleton.mp k]; exact hx
    ·rcases hna y hy with k | k
     ·rcases List.mem_append.mp k with k | k
      ·exact .inl (List.mem_append_left _ k)
      ·exact .inr (List.mem_append_right _ k)
     ·exact .inr (List.mem_append_left _ k)
    ·rcases List.mem_append.mp hz with k | k
     ·rcases hcl z k y hy with k | k
      ·rcases List.mem_append.mp k with k | k
       ·exact .inl (List.mem_append_left _ k)
       ·exact .inr (List.mem_append_right _ k)
      ·exact .inr (List.mem_append_left _ k)
     ·rw [List.mem_singleton.mp k] at hy
      exact .inl (List.mem_append_right _ hy)
  ·obtain rfl : as = [] := by
    cases as with
    | nil => rfl
    | cons x t => exact absurd (show (0 : Int) < (((x :: t).map V.str).length : Int) by rw [List.length_map, List.length_cons]; omega) hneg
   refine ⟨_, rfl, F, kvs, fs, rfl, hF', hk, by omega, fun l ys h1 h2 hl => ?_⟩
   refine q l _ ys (sm.free hl) (sm.put hl) (h1.nodup_iff.mpr hnd) h2 (fun y => ?_) ao
   rw [h1.mem_iff]
   refine ⟨fun hy => hfs y hy, fun hy => hy.in (fun y hy => ?_) (fun z hz y hy => ?_)⟩
   ·exact (hna y hy).resolve_left (by simp)
   ·exact (hcl z hz y hy).resolve_left (by simp)
theorem DK (T : Tx K mg C) (F : Fun K "leads" "leads" qg f fd) : aK P w K mg base (CX1 P w) 7 f fd nM (zA C) := by
 obtain ⟨f_check_part, fd_check_part, A_check_part⟩ := T.a_check_part
 have G_check_part : aK P w K mg base (CX1 P w) 3 f_check_part fd_check_part dZ (GX C) := mG T A_check_part.F
 obtain ⟨f_reached, fd_reached, A_reached⟩ := T.a_reached
 have G_reached : aK P w K mg base CX0 1 f_reached fd_reached jN ue := xJ T A_reached.F
 obtain ⟨f_all_links, fd_all_links, A_all_links⟩ := T.a_all_links
 have G_all_links : aK P w K mg base CX0 6 f_all_links fd_all_links gf (Bg C) := oG T A_all_links.F
 refine F.oqX Bj fun _ _ _ _ H _ Q E hr h => ?_
 ·obtain ⟨h0, l, ps, z, rfl, hh, g, hz, q, qe⟩ := h
  have hr1 : aR 1 _ := hr.mono (by decide)
  have hr3 : aR 3 _ := hr.mono (by decide)
  have hr6 : aR 6 _ := hr
  refine ⟨_, QSs.h (au (bU (lq A_check_part G_check_part hr3 jw (ak (pv 0) (ak (pv 1) aq))))
   (aB (aN (aV A_reached G_reached hr1 (ak (aV A_all_links G_all_links hr6 (ak (pv 0) aq)) (ak (pv 1) aq)))))), ?_⟩
  refine ⟨_, rfl, _, rfl, h0, l, ps, z, rfl, hh, g, hz, fun hin H1 s1 => ?_, qe⟩
  refine ⟨_, rfl, h0, l, ps, rfl, hh.same s1, g, fun R H2 zs hz1 hz2 hR s2 lk => ⟨_, rfl, R, z, zs, _, rfl, lk, GC g hz1, hz1.mem_iff.mpr hin, fun b H3 ys hb s3 h1 h2 h3 hb3 => ?_⟩⟩
  exact q hin b H3 zs ys hz1 hz2 ((s1.trans s2).free hb) (s1.trans (s2.trans s3)) h1 h2 h3 hb3
theorem lH (T : Tx K mg C) (F : Fun K "way_between" "way_between" fK f fd) : aK P w K mg base (CX1 P w) 7 f fd dF (Bm C) := by
 obtain ⟨f_check_part, fd_check_part, A_check_part⟩ := T.a_check_part
 have G_check_part : aK P w K mg base (CX1 P w) 3 f_check_part fd_check_part dZ (GX C) := mG T A_check_part.F
 obtain ⟨f_all_links, fd_all_links, A_all_links⟩ := T.a_all_links
 have G_all_links : aK P w K mg base CX0 6 f_all_links fd_all_links gf (Bg C) := oG T A_all_links.F
 refine F.oqX cI fun _ _ _ _ H _ Q E hr h => ?_
 ·obtain ⟨h0, l, ps, one, other, rfl, hh, g, ho1, ho2, q, qe1, qe2⟩ := h
  have hr3 : aR 3 _ := hr.mono (by decide)
  have hr6 : aR 6 _ := hr
  refine ⟨_, QSs.h (au (bU (lq A_check_part G_check_part hr3 jw (ak (pv 0) (ak (pv 1) aq))))
   (au (bU (lq A_check_part G_check_part hr3 jw (ak (pv 0) (ak (pv 2) aq))))
   (au (aP (i := 3) cI.nd rfl (Or.inl rfl) (aV A_all_links G_all_links hr6 (ak (pv 0) aq)))
   (au (aP (i := 4) cI.nd rfl (Or.inl rfl) (bH (ak (bH (ak (pv 1) aq)) aq)))
   (au (aP (i := 5) cI.nd rfl (Or.inl rfl) (Ge (DR (pv 1) gZ FZ) rfl rfl (by simp) (by decide)))
   (au (QS.mk (qL PassesOwn.leaving (aM yZ (aY aZ (by rfl) T.len PySem.boot_len (ak (pv 4) aq)) aA (aW _)) (QSs.h (au (aP (i := 6) cI.nd rfl (Or.inl rfl) (dD PySem.F.plainAttrs_list PySem.F.slot_list_pop PySem.F.type_list_pop DG (pv 4) (ak aA aq)))
   (aB (cL PassesOwn.leaving rfl (bj (cV (aR.u1 hr) (pv 3) (bC aX (pv 6) (rW ni aA) (fun _ _ => rfl)) (fun _ _ => rfl))) (aL (i := 7) cI.nd rfl (Or.inl rfl))
   (au (bz (aM dG (pv 7) (pv 2) (aW _)) (aB (aN (aU o7 (pv 6) (bH (ak (pv 7) aq))))) aQ)
   (aB (bz (Dd (uv (aR.u1 hr) (pv 7) (pv 5))) (au (QS.mk (iG (aR.u1 hr) (pv 5) (pv 7) gZ rfl))
   (aB (bU (dD PySem.F.plainAttrs_list PySem.F.slot_list_append PySem.F.type_list_append fG (pv 4) (ak (aU o7 (pv 6) (bH (ak (pv 7) aq))) aq))))) aQ)))))))))
   (aB (aN uO)))))))), ?_⟩
  refine ⟨_, rfl, _, rfl, h0, l, ps, one, rfl, hh, g, ho1, fun hin1 H1 s1 => ?_, qe1⟩
  refine ⟨_, rfl, _, rfl, h0, l, ps, other, rfl, hh.same s1, g, ho2, fun hin2 H2 s2 => ?_, fun hno x H' s np => qe2 hin1 hno x H' (s1.trans s) np⟩
  refine ⟨_, rfl, h0, l, ps, rfl, hh.same (s1.trans s2), g, fun R H3 zs hz1 hz2 hR s3 lk => ?_⟩
  have s03 := s1.trans (s2.trans s3)
  have q2 := fun H' (s : az H H') => q hin1 hin2 H' zs hz1 hz2 s
  have gr := GC g hz1
  have h1z := hz1.mem_iff.mpr hin1
  clear q qe1 qe2 hR s1 s2 s3
  generalize lN ps zs = nb at lk gr q2
  have h12 := gr.hi
  refine ⟨_, rfl, by show 1 ≤ sizeLine; decide, fun l1 hl1 => ⟨by show 1 ≤ sizeLine; decide, fun Wd hWd => ?_⟩⟩
  have hWd0 : H3 Wd = none := (az.new hl1).free hWd
  have hl1W : l1 ≠ Wd := aF ao hWd
  have s4 : az H3 (upd (upd H3 l1 (.lst [V.str one])) Wd (.lst [V.ref l1])) := (az.new hl1).put hWd
  have hl4 : (upd (upd H3 l1 (.lst [V.str one])) Wd (.lst [V.ref l1])) l1 = some (.lst [V.str one]) := (az.new hWd) _ _ ao
  have hW4 : (upd (upd H3 l1 (.lst [V.str one])) Wd (.lst [V.ref l1])) Wd = some (.lst [V.ref l1]) := ao
  generalize upd (upd H3 l1 (.lst [V.str one])) Wd (.lst [V.ref l1]) = H4 at s4 hl4 hW4
  refine fun Sd hSd => ⟨_, rfl, ao, [(.inr one, .bl true)], rfl, (by show 1 ≤ 15; decide), ?_⟩
  have hSd0 : H3 Sd = none := s4.free hSd
  have s5 : az H4 (upd (upd H4 Sd (.dK [])) Sd (.dK (lO [] [(.inr one, .bl true)]))) := (az.new hSd).over hSd
  have hS5 : (upd (upd H4 Sd (.dK [])) Sd (.dK (lO [] [(.inr one, .bl true)]))) Sd = some (.dK [(.inr one, .bl true)]) := ao
  generalize upd (upd H4 Sd (.dK [])) Sd (.dK (lO [] [(.inr one, .bl true)])) = H5 at s5 hS5
  have core : iB H3 Wd Sd one other zs nb H5 [[one]] [one] := by
   refine ⟨s4.trans s5, ⟨_, s5 _ _ hW4, rfl, fun i w e => ?_⟩, ⟨_, hS5, rfl⟩, by simp, fun x hx => by rw [List.mem_singleton.mp hx]; exact h1z, by simp, fun w hw => ?_⟩
   ·match i, e with
    | 0, e => cases e; exact ⟨l1, rfl, s5 _ _ hl4, hl1W⟩
    | n + 1, e => simp at e
   ·rw [List.mem_singleton.mp hw]
    refine ⟨rfl, fun k x y _ e => by simp at e, by simp, fun x hx => hx, fun k y k1 e => ?_⟩
    match k, k1, e with
    | n + 1, _, e => simp at e
  clear hS5 s5 hl4 hW4 s4 hSd hl1 hWd hl1W
  refine ⟨Nh H3 h0 R Wd Sd one other zs nb, ⟨_, none, none, [[one]], [one], rfl, core, fun x hx => .inl ⟨[one], by simp, by rw [List.mem_singleton.mp hx]; rfl⟩, rfl, (by show 2 * (zs.length - 1) + 1 ≤ 30; omega)⟩, ?_⟩
  clear core
  rintro m σ H' ⟨v6, v7, wss, fs, rfl, co, hcl, rfl, h30⟩
  obtain ⟨xs, hW, hxl, hxt⟩ := co.wd
  refine ⟨_, rfl, Wd, _, rfl, .inl (SqL.of hW), _, _, rfl, rfl, _, rfl, gh (fun hpos => ?_) (fun hneg => ?_)⟩
  ·refine ⟨fun σ' H'' => ∃ m', m' < 2 * (zs.length - fs.length) + wss.length ∧ Nh H3 h0 R Wd Sd one other zs nb m' σ' H'', fun _ _ z => z, ?_⟩
   obtain ⟨w, wt, rfl⟩ : ∃ w wt, wss = w :: wt := by
    cases wss with
    | nil =>
     have h0l : xs.length = 0 := hxl
     rw [h0l] at hpos
     exact absurd hpos (by decide)
    | cons w wt => exact ⟨w, wt, rfl⟩
   clear hW hxl hxt hpos
   have wok := co.ok w (by simp)
   obtain ⟨lw, xt, hW, hlw, hlwW, co4⟩ := co.pop hWd0
   refine ⟨_, rfl, .inl ⟨rfl, _, SqL.of hW⟩, Wd, _, 0, 0, _, rfl, rfl, hW, by decide, by decide, by simp [seqIndex?], rfl, ?_⟩
   have hlw4 : (upd H' Wd (.lst xt)) lw = some (.lst (w.map V.str)) := by rw [aG hlwW]; exact hlw
   have e4 : ((V.ref lw :: xt).eraseIdx 0) = xt := rfl
   rw [e4]
   generalize upd H' Wd (.lst xt) = H4 at co4 hlw4
   have hwne : w ≠ [] := fun z => by have := wok.fst; rw [z] at this; cases this
   obtain ⟨wi, x, rfl⟩ : ∃ wi x, w = wi ++ [x] := ⟨w.dropLast, w.getLast hwne, (List.dropLast_concat_getLast hwne).symm⟩
   have hlast : (wi ++ [x]).getLast? = some x := by simp
   have hxf : x ∈ fs := wok.se x (by simp)
   have hxz : x ∈ zs := co.fz x hxf
   obtain ⟨ll2, dgs, hll⟩ := lk.gets hxz
   have dg4 := dgs _ co4.sm
   have hll4 := co4.sm _ _ hll
   have hnl := gr.len hxz
   refine ⟨_, rfl, _, rfl, _, rfl, lw, _, _, _, rfl, rfl, SqL.of hlw4, qt, R, _, rfl, dg4, ll2, rfl, ⟨_, SqL.of hll4⟩, ?_⟩
   refine cu (xs := (nb x).map V.str) (fun j σ H5 => ∃ v7 wss2 fs2, σ = [some (.ref h0), some (.str one), some (.str other), some (.ref R), some (.ref Wd), some (.ref Sd), some (.ref lw), v7] ∧ iB H3 Wd Sd one other zs nb H5 wss2 fs2 ∧ H5 ll2 = some (.lst ((nb x).map V.str)) ∧ H5 lw = some (.lst ((wi ++ [x]).map V.str)) ∧ lJ nb one other fs2 (wi ++ [x]) ∧
     (∀ u ∈ fs2, (∃ w ∈ wss2, w.getLast? = some u) ∨ (∀ y ∈ nb u, y ≠ other ∧ y ∈ fs2) ∨ u = x) ∧ (∀ y ∈ (nb x).take j, y ≠ other ∧ y ∈ fs2) ∧ 2 * (zs.length - fs2.length) + wss2.length ≤ 2 * (zs.length - fs.length) + wt.length)
    ⟨_, wt, fs, rfl, co4, hll4, hlw4, wok, fun u hu => ?_, (fun y hy => by cases hy), Nat.le_refl _⟩ ?_ ?_ ?_
   ·rcases hcl u hu with ⟨w2, hw2, e2⟩ | k
    ·rcases List.mem_cons.mp hw2 with rfl | hw2
     ·rw [hlast] at e2
      cases e2
      exact .inr (.inr rfl)
     ·exact .inl ⟨w2, hw2, e2⟩
    ·exact .inr (.inl k)
   ·rintro j σ H5 _ ⟨v7, wss2, fs2, rfl, _, hll5, _⟩
    exact SqL.of hll5
   ·clear hcl dg4 co4 hlw4 hll4
    rintro j v σ H5 hv ⟨v7, wss2, fs2, rfl, co5, hll5, hlw5, wok5, hcl5, hpre, hme⟩
    obtain ⟨y, ey, rfl⟩ : ∃ y, (nb x)[j]? = some y ∧ v = V.str y := by
     rw [List.getElem?_map] at hv
     cases e : (nb x)[j]? with
     | none => rw [e] at hv; cases hv
     | some y => rw [e] at hv; cases hv; exact ⟨y, rfl, rfl⟩
    have hy := List.mem_of_getElem? ey
    have hyz := gr.cl x hxz y hy
    have hwl : (wi ++ [x]).length ≤ 12 := Nat.le_trans (jo wok5.nd fun z hz => co5.fz z (wok5.se z hz)) h12
    have hbd : ((wi ++ [x]).map V.str).length + [V.str y].length ≤ sizeLine := Nat.le_trans (show _ ≤ 13 by rw [List.length_map]; show (wi ++ [x]).length + 1 ≤ 13; omega) (by decide)
    refine ⟨_, rfl, _, rfl, rfl, _, rfl, gh (fun e => ?_) (fun hne => ?_)⟩
    ·obtain rfl : y = other := V.str.inj e
     refine ⟨_, rfl, _, rfl, by show 1 ≤ sizeLine; decide, fun lb hlb => ⟨lw, lb, _, _, rfl, rfl, (az.new hlb) _ _ hlw5, ao, hbd, fun e he => ?_⟩⟩
     have s6 : az H (upd (upd H5 lb (.lst [V.str y])) e (.lst ((wi ++ [x]).map V.str ++ [V.str y]))) := ((s03.trans co5.sm).put hlb).put he
     exact (q2 _ s6).2 e (wi ++ [x] ++ [y]) (((s03.trans co5.sm).put hlb).free he) (wok5.walk hlast hy co5.fz h12) (ao.trans (by rw [List.map_append (l₁ := wi ++ [x])]; rfl))
    ·have hyo : y ≠ other := fun z => hne (congrArg V.str z)
     obtain ⟨kvs, hS5, hk5⟩ := co5.sd
     refine ⟨_, rfl, _, rfl, Sd, _, rfl, lD.k (k := .inr y) hS5, _, rfl, ?_⟩
     rw [has_key hk5 y]
     by_cases hin : y ∈ fs2
     ·refine bA (by rw [decide_eq_true hin]; rfl) ?_
      refine ⟨_, wss2, fs2, rfl, co5, hll5, hlw5, wok5, hcl5, fun z hz => ?_, hme⟩
      rw [List.take_succ, ey] at hz
      rcases List.mem_append.mp hz with k | k
      ·exact hpre z k
      ·rw [show z = y by simpa using k]; exact ⟨hyo, hin⟩
     ·refine gj (by rw [decide_eq_false hin]; rfl) ?_
      obtain ⟨kvs6, hS6, hk6, co6⟩ := co5.see hSd0 hin hyz
      have hfl : fs2.length ≤ zs.length := jo co5.nd co5.fz
      refine ⟨_, rfl, _, rfl, Sd, _, rfl, nJ.k (k := .inr y) hS6 (Nat.lt_of_lt_of_le (show kvs6.length < 1000 by omega) bZ), ?_⟩
      have hll6 : (upd H5 Sd (.dK (putK kvs6 (.inr y) (.bl true)))) ll2 = some (.lst ((nb x).map V.str)) := by rw [aG (eX hll5 hS6 (by intro z; cases z))]; exact hll5
      have hlw6 : (upd H5 Sd (.dK (putK kvs6 (.inr y) (.bl true)))) lw = some (.lst ((wi ++ [x]).map V.str)) := by rw [aG (eX hlw5 hS6 (by intro z; cases z))]; exact hlw5
      generalize upd H5 Sd (.dK (putK kvs6 (.inr y) (.bl true))) = H6 at co6 hll6 hlw6
      obtain ⟨xs6, hW6, hxl6, _⟩ := co6.wd
      refine ⟨_, rfl, .inl ⟨rfl, _, SqL.of hW6⟩, _, rfl, _, rfl, by show 1 ≤ sizeLine; decide, fun lb hlb => ⟨lw, lb, _, _, rfl, rfl, (az.new hlb) _ _ hlw6, ao, hbd, fun e he => ?_⟩⟩
      have s8 : az H6 (upd (upd H6 lb (.lst [V.str y])) e (.lst ((wi ++ [x]).map V.str ++ [V.str y]))) := (az.new hlb).put he
      have he8 : (upd (upd H6 lb (.lst [V.str y])) e (.lst ((wi ++ [x]).map V.str ++ [V.str y]))) e = some (.lst ((wi ++ [x] ++ [y]).map V.str)) := ao.trans (by rw [List.map_append (l₁ := wi ++ [x])]; rfl)
      have heW : e ≠ Wd := (aF ((az.new hlb) _ _ hW6) he).symm
      generalize upd (upd H6 lb (.lst [V.str y])) e (.lst ((wi ++ [x]).map V.str ++ [V.str y])) = H8 at s8 he8
      have wok6 := wok5.more hlast hy hin hyo
      obtain ⟨xs8, hW8, hxl8, co9⟩ := (co6.same s8).push hWd0 he8 heW wok6
      have hfl2 : (fs2 ++ [y]).length ≤ zs.length := jo co6.nd co6.fz
      have hfl3 : (fs2 ++ [y]).length = fs2.length + 1 := by simp
      have hwl2 : (wss2 ++ [wi ++ [x] ++ [y]]).length = wss2.length + 1 := by simp
      have hwb : wss2.length ≤ 100 := by have : 2 * (zs.length - fs.length) + (wt.length + 1) ≤ 30 := h30; omega
      have hll9 : ll2 ≠ Wd := aF hll hWd0
      refine ⟨Wd, _, _, rfl, rfl, hW8, Nat.lt_of_lt_of_le (show xs8.length < 1000 by omega) bZ, ?_⟩
      refine ⟨_, wss2 ++ [wi ++ [x] ++ [y]], fs2 ++ [y], rfl, co9, by rw [aG hll9]; exact s8 _ _ hll6, by rw [aG hlwW]; exact s8 _ _ hlw6, wok5.mono fun z hz => List.mem_append_left _ hz, fun u hu => ?_, fun z hz => ?_, by omega⟩
      ·rcases List.mem_append.mp hu with k | k
       ·rcases hcl5 u k with ⟨w2, hw2, e2⟩ | k | k
        ·exact .inl ⟨w2, List.mem_append_left _ hw2, e2⟩
        ·exact .inr (.inl fun z hz => ⟨(k z hz).1, List.mem_append_left _ (k z hz).2⟩)
        ·exact .inr (.inr k)
       ·rw [List.mem_singleton.mp k]
        exact .inl ⟨wi ++ [x] ++ [y], by simp, by simp⟩
      ·rw [List.take_succ, ey] at hz
       rcases List.mem_append.mp hz with k | k
       ·exact ⟨(hpre z k).1, List.mem_append_left _ (hpre z k).2⟩
       ·rw [show z = y by simpa using k]; exact ⟨hyo, by simp⟩
   ·rintro σ H5 ⟨v7, wss2, fs2, rfl, co5, hll5, hlw5, wok5, hcl5, hpre, hme⟩
    rw [List.length_map, List.take_length] at hpre
    refine ⟨_, (show 2 * (zs.length - fs2.length) + wss2.length < 2 * (zs.length - fs.length) + (wt.length + 1) by omega), _, _, wss2, fs2, rfl, co5, fun u hu => ?_, rfl, (by have : 2 * (zs.length - fs.length) + (wt.length + 1) ≤ 30 := h30; omega)⟩
    rcases hcl5 u hu with k | k | rfl
    ·exact .inl k
    ·exact .inr k
    ·exact .inr hpre
  ·obtain rfl : wss = [] := by
    cases wss with
    | nil => rfl
    | cons w wt =>
     have : xs.length = wt.length + 1 := hxl
     exact absurd (show (0 : Int) < (xs.length : Int) by omega) hneg
   refine (q2 H' (s03.trans co.sm)).1 fun hr => ?_
   have hall : ∀ u ∈ fs, ∀ y ∈ nb u, y ≠ other ∧ y ∈ fs := fun u hu => (hcl u hu).resolve_left fun ⟨w, hw, _⟩ => by cases hw
   have : ∀ y, Rch nb one y → y ≠ other ∧ y ∈ fs := fun y hy => by
    induction hy with
    | one h => exact hall one co.on _ h
    | more _ h ih => exact hall _ ih.2 _ h
   exact (this other hr).1 rfl
theorem uz (T : Tx K mg C) (F : Fun K "_law_words" "_law_words" iK f fd) : aK P w K mg base CX0 2 f fd qH zH := by
 obtain ⟨f_law_pick, fd_law_pick, A_law_pick⟩ := T.a_law_pick
 have G_law_pick : aK P w K mg base CX0 1 f_law_pick fd_law_pick jt lK := km A_law_pick.F
 refine F.oq iJ fun _ _ _ _ H _ Q E hr h => ?_
 ·obtain ⟨c, rfl, q⟩ := h
  have hr1 : aR 1 _ := hr
  refine ⟨_, QSs.h (au (aP (i := 1) iJ.nd rfl (Or.inr rfl) aJ)
   (au (aP (i := 2) iJ.nd rfl (Or.inr rfl) (b7 (N := ["_law_k", "_law_letters", "_law_cell_here"]) [none, some 1, some 0] rfl (by kernel_rfl) (gU (by rfl) T.range (ak aA aq)) (fun cl C fp s H => (aL (i := 0) (by decide +kernel : (["_law_k", "_law_letters", "_law_cell_here"] : List Str).Nodup) rfl (Or.inl rfl))) (fun cl C fp s H => eN) (fun cl C fp s H => (bC Bh (pv 1) (aV A_law_pick G_law_pick hr1 (ak (pv 2) (ak (aU cY aA (pv 0)) (ak aA aq)))) (fun _ _ => rfl)))))
   (au (bz (aM dG (aV A_law_pick G_law_pick hr1 (ak (pv 0) (ak aA (ak aA aq)))) aA (aW _)) (aB (aN (b7 (N := ["_law_k", "_law_base"]) [none, some 2] rfl (by kernel_rfl) (gU (by rfl) T.range (ak aA aq)) (fun cl C fp s H => (aL (i := 0) (by decide +kernel : (["_law_k", "_law_base"] : List Str).Nodup) rfl (Or.inl rfl))) (fun cl C fp s H => eN) (fun cl C fp s H => (vd (K := K) rfl PySem.F.plainAttrs_str PySem.F.slot_str_join PySem.F.type_str_join (sy rfl) aJ (ak (dm (sH (K := K) rfl) (pv 1) jf (cW (aU cY (pv 0) aA))) aq)))))) aQ)
   (au (bz (aM dG (aV A_law_pick G_law_pick hr1 (ak (pv 0) (ak aA (ak aA aq)))) aA (aW _)) (aB (aN (G6 (b8 aJ (b8 aJ (b8 aJ (b8 aJ (b8 aJ (b8 aJ (b8 aJ (b8 aJ Cv))))))))))) aQ)
   (au (aP (i := 3) iJ.nd rfl (Or.inl rfl) (aU cY aA (aV A_law_pick G_law_pick hr1 (ak (pv 0) (ak aA (ak aA aq))))))
   (au (aP (i := 4) iJ.nd rfl (Or.inl rfl) (aV A_law_pick G_law_pick hr1 (ak (pv 0) (ak aA (ak (pv 3) aq)))))
   (au (aP (i := 5) iJ.nd rfl (Or.inr rfl) (aV A_law_pick G_law_pick hr1 (ak (pv 0) (ak aA (ak aA aq)))))
   (au (aP (i := 6) iJ.nd rfl (Or.inr rfl) (dD PySem.F.plainAttrs_str PySem.F.slot_str_join PySem.F.type_str_join vp aJ (ak (dm iD (pv 2) jf (cW (pv 4))) aq)))
   (au (aP (i := 7) iJ.nd rfl (Or.inr rfl) (dD PySem.F.plainAttrs_str PySem.F.slot_str_join PySem.F.type_str_join vp aJ (ak (dm iD (pv 2) (cW (aU cY (pv 4) aA)) (cW (pv 3))) aq)))
   (aB (aN (b7 (N := ["_law_k", "_law_tail", "_law_head", "_law_letters", "_law_first"]) [none, some 7, some 6, some 1, some 5] rfl (by kernel_rfl) (gU (by rfl) T.range (ak aA aq)) (fun cl C fp s H => (aL (i := 0) (by decide +kernel : (["_law_k", "_law_tail", "_law_head", "_law_letters", "_law_first"] : List Str).Nodup) rfl (Or.inl rfl))) (fun cl C fp s H => eN) (fun cl C fp s H => (aU bB (aU bB (pv 2) (bC Bh (pv 3) (aU jg (aU cY (pv 4) (pv 0)) aA) (fun _ _ => rfl))) (pv 1))))))))))))))), ?_⟩
  refine ⟨_, rfl, by decide, by decide, lU (fun i v H' => ∃ b : Int, v = V.str (lt1 b) ∧ 0 ≤ b ∧ b < 26) (fun i v H' H'' h _ => h) (by show 8 ≤ sizeLine; decide) (fun i H' Q' hi sm k' => ?_) (fun xs H1 s1 hl hx B hB => ?_)⟩
  ·have hi' : i < 8 := hi
   exact ⟨_, rfl, _, rfl, _, rfl, _, _, rfl, rfl, c, 8 + (0 + (i : Int)), 26, rfl, by omega, by omega, by decide, fun H5 s5 => ⟨letters, _, _, rfl, rfl, by decide +kernel, lat (d9 c _ (by decide)) (fP c _ (by decide)), k' _ H5 s5 ⟨_, rfl, d9 c _ (by decide), fP c _ (by decide)⟩⟩⟩
  obtain ⟨bs, hbl, rfl, hbr⟩ := Hn hx
  have hb8 : bs.length = 8 := by rw [List.length_map, List.length_map] at hl; exact hl
  have s02 : az H (upd H1 B (.lst ((bs.map lt1).map V.str))) := s1.put hB
  have hB2 : (upd H1 B (.lst ((bs.map lt1).map V.str))) B = some (.lst ((bs.map lt1).map V.str)) := ao
  generalize upd H1 B (.lst ((bs.map lt1).map V.str)) = H2 at s02 hB2
  refine ⟨_, rfl, c, 2, 4, rfl, by decide, by decide, by decide, fun H3 s3 => ⟨rfl, _, rfl, gh (fun _ => ?_) (fun _ => ?_)⟩⟩
  ·refine ⟨_, rfl, by decide, by decide, lU (fun i v H' => v = V.str (lQ (bs.take (i + 1)))) (fun i v H' H'' h _ => h) (by show 8 ≤ sizeLine; decide) (fun i H' Q' hi sm k' => ?_) (fun xs H4 s4 hl4 hx4 l hl0 => ?_)⟩
   ·have hi' : i < 8 := hi
    have ec : fB ((bs.map lt1).map V.str) none (some (0 + (i : Int) + 1)) = ((bs.take (i + 1)).map lt1).map V.str := by
     rw [jA _ (by omega), show (0 + (i : Int) + 1).toNat = i + 1 from by omega]
     simp only [List.map_take]
    have h8 : (bs.take (i + 1)).length ≤ 8 := by rw [List.length_take]; omega
    exact ⟨rfl, _, rfl, _, rfl, _, _, rfl, rfl, _, rfl, B, _, rfl, SqL.of ((s3.trans sm) _ _ hB2), fun w hw => ⟨_, w, (bs.take (i + 1)).map lt1, rfl, rfl, .inl (SqL.of (ao.trans (by rw [ec]))), rJ h8, k' _ _ (az.new hw) (congrArg V.str (rR _))⟩⟩
   ·obtain rfl : xs = (xq bs).map V.str := (Fx (fun i => V.str (lQ (bs.take (i + 1)))) hl4 hx4).trans (by unfold xq; rw [List.map_map]; rfl)
    exact q l _ (xq bs) ((s02.trans (s3.trans s4)).free hl0) ((s02.trans (s3.trans s4)).put hl0) (by unfold xq; rw [List.length_map, List.length_range]) (Ey hbr hb8) ao
  refine ⟨_, rfl, c, 2, 4, rfl, by decide, by decide, by decide, fun H4 s4 => ⟨rfl, _, rfl, gh (fun _ => ?_) (fun _ => ?_)⟩⟩
  ·exact ⟨by show 8 ≤ sizeLine; decide, fun l hl0 => q l _ Hc ((s02.trans (s3.trans s4)).free hl0) ((s02.trans (s3.trans s4)).put hl0) rfl Er ao⟩
  have s04 := s02.trans (s3.trans s4)
  have z1 := d9 c 3 (m := 8) (by decide)
  have z2 := fP c 3 (m := 8) (by decide)
  refine ⟨_, rfl, c, 3, 8, rfl, by decide, by decide, by decide, fun H5 s5 => ⟨_, _, rfl, rfl, ?_⟩⟩
  generalize pick c 3 8 = sz at z1 z2
  have o1 := d9 c 4 (m := 1 + sz) (by omega)
  have o2 := fP c 4 (m := 1 + sz) (by omega)
  refine ⟨_, rfl, _, rfl, c, 4, 1 + sz, rfl, by decide, by decide, by omega, fun H6 s6 => ?_⟩
  generalize pick c 4 (1 + sz) = at_ at o1 o2
  have f1 := d9 c 5 (m := 26) (by decide)
  refine ⟨_, rfl, c, 5, 26, rfl, by decide, by decide, by decide, fun H7 s7 => ?_⟩
  generalize pick c 5 26 = fi at f1
  have s27 : az H2 H7 := s3.trans (s4.trans (s5.trans (s6.trans s7)))
  have ha8 : (bs.take at_.toNat).length ≤ 8 := by rw [List.length_take]; omega
  have ec1 : fB ((bs.map lt1).map V.str) none (some at_) = ((bs.take at_.toNat).map lt1).map V.str := by rw [jA _ o1]; simp only [List.map_take]
  refine ⟨rfl, _, rfl, _, rfl, _, rfl, B, _, rfl, SqL.of (s27 _ _ hB2), fun w hw => ⟨_, w, (bs.take at_.toNat).map lt1, rfl, rfl, .inl (SqL.of (ao.trans (by rw [ec1]))), rJ ha8, ?_⟩⟩
  have s28 : az H2 (upd H7 w (.lst (fB ((bs.map lt1).map V.str) none (some at_)))) := s27.put hw
  generalize upd H7 w (.lst (fB ((bs.map lt1).map V.str) none (some at_))) = H8 at s28
  have ew1 := rR (bs.take at_.toNat)
  generalize Txt.join ("" : Str) ((bs.take at_.toNat).map lt1) = hd at ew1
  subst ew1
  have hd8 : ((bs.drop (at_ + 1).toNat).take ((1 + sz).toNat - (at_ + 1).toNat)).length ≤ (1 + sz).toNat - (at_ + 1).toNat := List.length_take_le _ _
  have ec2 : fB ((bs.map lt1).map V.str) (some (at_ + 1)) (some (1 + sz)) = (((bs.drop (at_ + 1).toNat).take ((1 + sz).toNat - (at_ + 1).toNat)).map lt1).map V.str := by
   rw [zx _ (by omega) (by omega) (by rw [List.length_map]; omega) (by rw [List.length_map]; omega)]
   simp only [List.map_take, List.map_drop]
  refine ⟨rfl, _, rfl, _, rfl, _, _, rfl, rfl, _, rfl, _, rfl, _, rfl, B, _, rfl, SqL.of (s28 _ _ hB2), fun w2 hw2 => ⟨_, w2, ((bs.drop (at_ + 1).toNat).take ((1 + sz).toNat - (at_ + 1).toNat)).map lt1, rfl, rfl, .inl (SqL.of (ao.trans (by rw [ec2]))), rJ (by omega), ?_⟩⟩
  have s29 : az H2 (upd H8 w2 (.lst (fB ((bs.map lt1).map V.str) (some (at_ + 1)) (some (1 + sz))))) := s28.put hw2
  generalize upd H8 w2 (.lst (fB ((bs.map lt1).map V.str) (some (at_ + 1)) (some (1 + sz)))) = H9 at s29
  have ew2 := rR ((bs.drop (at_ + 1).toNat).take ((1 + sz).toNat - (at_ + 1).toNat))
  generalize Txt.join ("" : Str) (((bs.drop (at_ + 1).toNat).take ((1 + sz).toNat - (at_ + 1).toNat)).map lt1) = tl at ew2
  subst ew2
  have hdr : u6 ((bs.drop (at_ + 1).toNat).take ((1 + sz).toNat - (at_ + 1).toNat)) := fun k hk => hbr k (List.mem_of_mem_drop (List.mem_of_mem_take hk))
  generalize (bs.drop (at_ + 1).toNat).take ((1 + sz).toNat - (at_ + 1).toNat) = ds at hd8 hdr
  have hal : (bs.take at_.toNat).length ≤ at_.toNat := List.length_take_le _ _
  have har := hbr.take at_.toNat
  generalize bs.take at_.toNat = as at hal har
  refine ⟨_, rfl, by decide, by decide, lU (fun i v H' => ∃ z, v = V.str z ∧ cX z) (fun i v H' H'' h _ => h) (by show 8 ≤ sizeLine; decide) (fun i H' Q' hi sm k' => ?_) (fun xs H10 s10 hl10 hx10 l hl0 => ?_)⟩
  ·have la : (lQ as).length ≤ 8 := by rw [vB]; omega
   have ld : (lQ ds).length ≤ 8 := by rw [vB]; omega
   have m1 : 0 ≤ (fi + (0 + (i : Int))) % 26 := by omega
   have m2 : (fi + (0 + (i : Int))) % 26 < 26 := by omega
   exact ⟨_, rfl, _, rfl, _, rfl, _, rfl, _, _, rfl, rfl, _, _, rfl, rfl, by show (0 : Int) < 26; decide, letters, _, _, rfl, rfl, by decide +kernel, lat m1 m2, _, _, rfl, rfl, abS la (Nat.le_refl 1), _, rfl, _, _, rfl, rfl, abS (alS la (Nat.le_refl 1)) ld, k' _ H' (az.refl _) ⟨_, rfl, HJ har hdr m1 m2 (by omega)⟩⟩
  ·obtain ⟨ws, hwl, rfl, hwn⟩ := BL hx10
   have h8 : ws.length = 8 := by rw [List.length_map] at hl10; exact hl10
   exact q l _ ws ((s02.trans (s29.trans s10)).free hl0) ((s02.trans (s29.trans s10)).put hl0) h8 hwn ao
theorem o5 (T : Tx K mg C) (F : Fun K "_law_addresses" "_law_addresses" dH f fd) : aK P w K mg base CX0 2 f fd jd Di := by
 obtain ⟨f_law_pick, fd_law_pick, A_law_pick⟩ := T.a_law_pick
 have G_law_pick : aK P w K mg base CX0 1 f_law_pick fd_law_pick jt lK := km A_law_pick.F
 refine F.oq dj fun _ _ _ _ H _ Q E hr h => ?_
 ·obtain ⟨c, n, lw, ws, rfl, n1, n12, hlw, hw8, hwn, q⟩ := h
  have hr1 : aR 1 _ := hr
  refine ⟨_, QSs.h (au (aP (i := 3) dj.nd rfl (Or.inl rfl) (bH aq))
   (au (cL PassesOwn.never rfl (gU (by rfl) T.range (ak (pv 1) aq)) (aL (i := 4) dj.nd rfl (Or.inl rfl))
   (au (aP (i := 5) dj.nd rfl (Or.inl rfl) (aU o7 (bH (ak aJ aq)) (b7 (N := ["_law_one"]) [none] rfl (by kernel_rfl) (bj (pv 3)) (fun cl C fp s H => (aL (i := 0) (by decide +kernel : (["_law_one"] : List Str).Nodup) rfl (Or.inl rfl))) (fun cl C fp s H => (jH (aM qX (vd (K := K) rfl PySem.F.plainAttrs_str PySem.F.slot_str_count PySem.F.type_str_count wV (pv 0) (ak aJ aq)) aA (aW _)))) (fun cl C fp s H => (pv 0)))))
   (au (aP (i := 6) dj.nd rfl (Or.inl rfl) (bC aX (pv 5) (aV A_law_pick G_law_pick hr1 (ak (pv 0) (ak (aU nC aA (pv 4)) (ak (aY aZ (by rfl) T.len PySem.boot_len (ak (pv 5) aq)) aq)))) (fun _ _ => rfl)))
   (au (aP (i := 7) dj.nd rfl (Or.inl rfl) (bC aX (pv 2) (aV A_law_pick G_law_pick hr1 (ak (pv 0) (ak (aU cY (aU nC aA (pv 4)) aA) (ak aA aq)))) (fun _ _ => rfl)))
   (au (bz (aM t7 (pv 6) aJ (aW _)) (aB (aP (i := 7) dj.nd rfl (Or.inl rfl) (aU bB (aU bB (pv 6) aJ) (pv 7)))) aQ)
   (aB (bz (aM gO (pv 7) (pv 3) (by rfl)) (aB (bU (dD PySem.F.plainAttrs_list PySem.F.slot_list_append PySem.F.type_list_append fG (pv 3) (ak (pv 7) aq)))) aQ)))))))
   (au (bz (aM dG (aV A_law_pick G_law_pick hr1 (ak (pv 0) (ak aA (ak aA aq)))) aA (aW _)) (aB (bU (Dq PySem.F.plainAttrs_list PySem.F.slot_list_reverse PySem.F.type_list_reverse xW (pv 3)))) aQ)
   (aB (aN (pv 3)))))), ?_⟩
  refine ⟨by show 0 ≤ sizeLine; decide, fun F hF => ?_⟩
  have s1 : az H (upd H F (.lst [])) := az.new hF
  have hF1 : (upd H F (.lst [])) F = some (.lst ((([] : List (List Str)).map dotted).map V.str)) := ao
  generalize upd H F (.lst []) = H1 at s1 hF1
  have hfl : ∀ zs : List Str, (zs.map V.str).all cN = true := dC
  refine ⟨_, rfl, _, rfl, by omega, by omega, ?_⟩
  refine mj (fun i σ H2 => ∃ v4 v5 v6 v7, ∃ as : List (List Str), σ = [some (.int c), some (.int n), some (.ref lw), some (.ref F), v4, v5, v6, v7] ∧ az H H2 ∧ H2 F = some (.lst ((as.map dotted).map V.str)) ∧ bK as ∧ as.length ≤ i ∧ (0 < i → as ≠ []))
   ⟨none, none, none, none, [], rfl, s1, hF1, ⟨by decide, (fun a ha => by cases ha), List.Pairwise.nil, (fun a ha => by cases ha)⟩, Nat.le_refl _, fun z => absurd z (Nat.lt_irrefl _)⟩ ?_ ?_
  ·rintro i σ H2 hi ⟨v4, v5, v6, v7, as, rfl, sm, hF2, g, hal, hane⟩
   have hi12 : i < 12 := by omega
   refine ⟨by show 1 ≤ sizeLine; decide, fun b hb => ?_⟩
   have sb : az H2 (upd H2 b (.lst [V.str ""])) := az.new hb
   have hb3 : (upd H2 b (.lst [V.str ""])) b = some (.lst [V.str ""]) := ao
   generalize upd H2 b (.lst [V.str ""]) = H3 at sb hb3
   have hlen : ((as.map dotted).map V.str).length ≤ 12 := by rw [List.length_map, List.length_map]; omega
   refine ⟨_, rfl, F, rfl, ⟨_, SqL.of (sb _ _ hF2)⟩, bV (xs := (as.map dotted).map V.str) d8 (Nat.le_trans hlen (by decide)) (SqL.of (sb _ _ hF2)) (fun x H' Q' hx sm2 k => ?_) (fun x H' Q' hx sm2 k => ?_) (fun H4 s4 d hd => ?_)⟩
   ·obtain ⟨z, _, rfl⟩ := List.mem_map.mp hx
    exact ⟨_, rfl, rfl, _, _, rfl, rfl, _, _, rfl, rfl, _, rfl, k H' (az.refl _)⟩
   ·exact ⟨_, rfl, k H' (az.refl _)⟩
   have hflt : (((as.map dotted).map V.str).filter d8).length ≤ 12 := Nat.le_trans (List.length_filter_le _ _) hlen
   have hbd : b ≠ d := (aF (s4 _ _ hb3) hd)
   refine ⟨b, d, _, _, rfl, rfl, by rw [aG hbd]; exact s4 _ _ hb3, ao, Nat.le_trans (show 1 + _ ≤ 1 + 12 from Nat.add_le_add_left hflt 1) (by decide), fun e he => ?_⟩
   have s5 : az H2 (upd (upd H4 d (.lst (((as.map dotted).map V.str).filter d8))) e (.lst ([V.str ""] ++ ((as.map dotted).map V.str).filter d8))) := ((sb.trans s4).put hd).put he
   have he5 : (upd (upd H4 d (.lst (((as.map dotted).map V.str).filter d8))) e (.lst ([V.str ""] ++ ((as.map dotted).map V.str).filter d8))) e = some (.lst ((("" : Str) :: (as.map dotted).filter fun z => d8 (.str z)).map V.str)) := ao.trans (by rw [dB]; rfl)
   generalize upd (upd H4 d (.lst (((as.map dotted).map V.str).filter d8))) e (.lst ([V.str ""] ++ ((as.map dotted).map V.str).filter d8)) = H5 at s5 he5
   have hz0 : ∀ z ∈ ("" : Str) :: (as.map dotted).filter (fun z => d8 (.str z)), z = "" ∨ ∃ a ∈ as, z = dotted a ∧ a.length ≤ 2 := fun z hz => by
    rcases List.mem_cons.mp hz with rfl | hz
    ·exact .inl rfl
    ·have hm : V.str z ∈ ((as.map dotted).map V.str).filter d8 := by rw [dB]; exact List.mem_map.mpr ⟨z, hz, rfl⟩
     obtain ⟨a, ha, ea, hl⟩ := Bt g hm
     exact .inr ⟨a, ha, V.str.inj ea, hl⟩
   have hne0 : (("" : Str) :: (as.map dotted).filter fun z => d8 (.str z)) ≠ [] := by simp
   generalize (("" : Str) :: (as.map dotted).filter fun z => d8 (.str z)) = zs at he5 hz0 hne0
   have hzl : 0 < (zs.length : Int) := by have := List.length_pos_iff.mpr hne0; omega
   obtain ⟨z, hz, eat⟩ := eU (c := c) (k := 2 * (0 + (i : Int))) hne0
   refine ⟨_, rfl, _, rfl, _, rfl, _, _, rfl, rfl, .inl ⟨by decide, by decide⟩, _, rfl, e, _, rfl, .inl (SqL.of he5), c, 2 * (0 + (i : Int)), zs.length, (by rw [List.length_map]; rfl), by omega, by omega, hzl, fun H6 s6 => ⟨e, _, _, _, rfl, rfl, SqL.of (s6 _ _ he5), eat, ?_⟩⟩
   have hw0 : ws ≠ [] := fun z => by rw [z] at hw8; cases hw8
   obtain ⟨w, hw, eaw⟩ := eU (c := c) (k := 2 * (0 + (i : Int)) + 1) hw0
   rw [hw8] at eaw
   have s26 : az H2 H6 := s5.trans s6
   refine ⟨_, rfl, _, rfl, _, rfl, _, _, rfl, rfl, .inl ⟨by decide, by decide⟩, _, _, rfl, rfl, c, 2 * (0 + (i : Int)) + 1, 8, rfl, by omega, by omega, by decide, fun H7 s7 => ⟨lw, _, _, _, rfl, rfl, SqL.of ((sm.trans (s26.trans s7)) _ _ hlw), eaw, ?_⟩⟩
   have s27 : az H2 H7 := s26.trans s7
   have nw := hwn w hw
   have hF7 := s27 _ _ hF2
   by_cases hz1 : z = ""
   ·refine ⟨_, rfl, rfl, _, rfl, vC (decide_eq_true (congrArg V.str hz1)) ?_⟩
    have ga : cO [w] := ⟨by simp, (by show 1 ≤ 3; decide), fun y hy => by rw [List.mem_singleton.mp hy]; exact nw⟩
    have ew : w = dotted [w] := (ir w).symm
    by_cases hin : inV (V.str w) ((as.map dotted).map V.str) = true
    ·refine ⟨_, rfl, _, rfl, F, _, rfl, .inl (SqL.of hF7), rfl, hfl _, _, rfl, bA (by rw [hin]; rfl) ?_⟩
     refine ⟨_, _, _, _, as, rfl, sm.trans s27, hF7, g, by omega, fun _ z => ?_⟩
     rw [z] at hin
     exact absurd (show false = true from hin) (by decide)
    ·have hin2 : inV (V.str w) ((as.map dotted).map V.str) = false := by simpa using hin
     refine ⟨_, rfl, _, rfl, F, _, rfl, .inl (SqL.of hF7), rfl, hfl _, _, rfl, gj (by rw [hin2]; rfl) ?_⟩
     refine ⟨_, rfl, .inl ⟨rfl, _, SqL.of hF7⟩, _, rfl, F, _, _, rfl, rfl, hF7, Nat.lt_of_lt_of_le (show ((as.map dotted).map V.str).length < 1000 by omega) bZ, ?_⟩
     refine ⟨_, _, _, _, as ++ [[w]], rfl, (sm.trans s27).over hF, ao.trans (by rw [List.map_append, List.map_append]; show some (HO.lst (_ ++ [V.str w])) = some (HO.lst (_ ++ [V.str (dotted [w])])); rw [← ew]), g.snoc (by omega) ga (fun hm => hin (by rw [ew]; exact pq (List.mem_map.mpr ⟨_, hm, rfl⟩))) (.inl rfl), by rw [List.length_append]; show as.length + 1 ≤ _; omega, fun _ => by simp⟩
   ·obtain ⟨p, hp, rfl, hp2⟩ := (hz0 z hz).resolve_left hz1
    have gp := g.ok p hp
    have nwl := nw.hi
    have h36 := gp.len
    refine ⟨_, rfl, rfl, _, rfl, yu (decide_eq_false fun y => hz1 (V.str.inj y)) ?_⟩
    refine ⟨_, rfl, _, _, rfl, rfl, abS h36 lA, _, rfl, _, _, rfl, rfl, abS (alS h36 lA) nwl, ?_⟩
    have ew : dotted p ++ "." ++ w = dotted (p ++ [w]) := pH gp.lo
    have ga : cO (p ++ [w]) := ⟨by simp, by rw [List.length_append]; show p.length + 1 ≤ 3; omega, fun y hy => by
     rcases List.mem_append.mp hy with hy | hy
     ·exact gp.nm y hy
     ·rw [List.mem_singleton.mp hy]; exact nw⟩
    by_cases hin : inV (V.str (dotted p ++ "." ++ w)) ((as.map dotted).map V.str) = true
    ·refine ⟨_, rfl, _, rfl, F, _, rfl, .inl (SqL.of hF7), rfl, hfl _, _, rfl, bA (by rw [hin]; rfl) ?_⟩
     refine ⟨_, _, _, _, as, rfl, sm.trans s27, hF7, g, by omega, fun _ z => ?_⟩
     rw [z] at hp
     cases hp
    ·have hin2 : inV (V.str (dotted p ++ "." ++ w)) ((as.map dotted).map V.str) = false := by simpa using hin
     refine ⟨_, rfl, _, rfl, F, _, rfl, .inl (SqL.of hF7), rfl, hfl _, _, rfl, gj (by rw [hin2]; rfl) ?_⟩
     refine ⟨_, rfl, .inl ⟨rfl, _, SqL.of hF7⟩, _, rfl, F, _, _, rfl, rfl, hF7, Nat.lt_of_lt_of_le (show ((as.map dotted).map V.str).length < 1000 by omega) bZ, ?_⟩
     refine ⟨_, _, _, _, as ++ [p ++ [w]], rfl, (sm.trans s27).over hF, ao.trans (by rw [List.map_append, List.map_append]; show some (HO.lst (_ ++ [V.str (dotted p ++ "." ++ w)])) = some (HO.lst (_ ++ [V.str (dotted (p ++ [w]))])); rw [← ew]), g.snoc (by omega) ga (fun hm => hin (by rw [ew]; exact pq (List.mem_map.mpr ⟨_, hm, rfl⟩))) (.inr (by rw [List.dropLast_concat]; exact hp)), by rw [List.length_append]; show as.length + 1 ≤ _; omega, fun _ => by simp⟩
  ·rintro σ H2 ⟨v4, v5, v6, v7, as, rfl, sm, hF2, g, hal, hane⟩
   have hne := hane (by omega)
   refine ⟨_, rfl, c, 30, 3, rfl, by decide, by decide, by decide, fun H3 s3 => ⟨rfl, _, rfl, gh (fun _ => ?_) (fun _ => ?_)⟩⟩
   ·refine ⟨_, rfl, .inl ⟨rfl, _, SqL.of (s3 _ _ hF2)⟩, F, _, rfl, rfl, s3 _ _ hF2, ?_⟩
    exact ⟨_, rfl, q F _ as.reverse hF ((sm.trans s3).over hF) (by simpa using hne) g.rev (ao.trans (by rw [List.map_reverse, List.map_reverse]))⟩
   ·exact ⟨_, rfl, q F _ as hF (sm.trans s3) hne g (s3 _ _ hF2)⟩
theorem vP (T : Tx K mg C) (F : Fun K "_law_asked" "_law_asked" iU f fd) : aK P w K mg base CX0 2 f fd qz yM := by
 obtain ⟨f_law_pick, fd_law_pick, A_law_pick⟩ := T.a_law_pick
 have G_law_pick : aK P w K mg base CX0 1 f_law_pick fd_law_pick jt lK := km A_law_pick.F
 refine F.oq uQ fun _ _ _ _ H _ Q E hr h => ?_
 ·obtain ⟨c, la, lw, as, ws, rfl, hla, hne, g, hlw, hw8, hwn, q⟩ := h
  have hr1 : aR 1 _ := hr
  refine ⟨_, QSs.h (au (aP (i := 3) uQ.nd rfl (Or.inl rfl) (bC aX (pv 1) (aV A_law_pick G_law_pick hr1 (ak (pv 0) (ak aA (ak (aY aZ (by rfl) T.len PySem.boot_len (ak (pv 1) aq)) aq)))) (fun _ _ => rfl)))
   (au (aP (i := 4) uQ.nd rfl (Or.inl rfl) (bC aX (pv 2) (aV A_law_pick G_law_pick hr1 (ak (pv 0) (ak aA (ak aA aq)))) (fun _ _ => rfl)))
   (au (bz (aM yZ (aV A_law_pick G_law_pick hr1 (ak (pv 0) (ak aA (ak aA aq)))) aA (aW _)) (aB (aN (pv 3))) aQ)
   (au (bz (aM qX (dD PySem.F.plainAttrs_str PySem.F.slot_str_count PySem.F.type_str_count wV (pv 3) (ak aJ aq)) aA (aW _)) (aB (aN (aU bB (aU bB (pv 3) aJ) (pv 4)))) aQ)
   (aB (aN (pv 4))))))), ?_⟩
  have hne2 : as.map dotted ≠ [] := by simpa using hne
  have hzl : 0 < ((as.map dotted).length : Int) := by have := List.length_pos_iff.mpr hne2; omega
  obtain ⟨z, hz, eat⟩ := eU (c := c) (k := 2) hne2
  obtain ⟨a, ha, rfl⟩ := List.mem_map.mp hz
  have ga := g.ok a ha
  refine ⟨_, rfl, _, rfl, _, rfl, la, _, rfl, .inl (SqL.of hla), c, 2, (as.map dotted).length, (show [V.int c, V.int 2, V.int ((as.map dotted).map V.str).length] = [V.int c, V.int 2, V.int (as.map dotted).length] by rw [List.length_map (f := V.str)]), by decide, by decide, hzl, fun H1 s1 => ⟨la, _, _, _, rfl, rfl, SqL.of (s1 _ _ hla), eat, ?_⟩⟩
  have hw0 : ws ≠ [] := fun z => by rw [z] at hw8; cases hw8
  obtain ⟨w, hw, eaw⟩ := eU (c := c) (k := 3) hw0
  rw [hw8] at eaw
  have nw := hwn w hw
  refine ⟨_, rfl, _, rfl, c, 3, 8, rfl, by decide, by decide, by decide, fun H2 s2 => ⟨lw, _, _, _, rfl, rfl, SqL.of ((s1.trans s2) _ _ hlw), eaw, ?_⟩⟩
  refine ⟨_, rfl, c, 4, 5, rfl, by decide, by decide, by decide, fun H3 s3 => ⟨_, _, rfl, rfl, _, rfl, gh (fun _ => ?_) (fun _ => ?_)⟩⟩
  ·exact ⟨_, rfl, q a ga H3 (s1.trans (s2.trans s3))⟩
  have s03 := s1.trans (s2.trans s3)
  refine ⟨_, rfl, rfl, _, _, rfl, rfl, _, _, rfl, rfl, _, rfl, gh (fun h2 => ?_) (fun _ => ?_)⟩
  ·rw [By ga] at h2
   have h36 := ga.len
   refine ⟨_, rfl, _, _, rfl, rfl, abS h36 lA, _, rfl, _, _, rfl, rfl, abS (alS h36 lA) nw.hi, ?_⟩
   have q2 := q (a ++ [w]) (zW ga (by omega) nw) H3 s03
   rw [← pH ga.lo] at q2
   exact q2
  ·have q2 := q [w] (zb nw) H3 s03
   rw [ir] at q2
   exact ⟨_, rfl, q2⟩
theorem uP (T : Tx K mg C) (F : Fun K "_law_drawn" "_law_drawn" iH f fd) : aK P w K mg base CX0 3 f fd qu yO := by
 obtain ⟨f_law_pick, fd_law_pick, A_law_pick⟩ := T.a_law_pick
 have G_law_pick : aK P w K mg base CX0 1 f_law_pick fd_law_pick jt lK := km A_law_pick.F
 obtain ⟨f_law_asked, fd_law_asked, A_law_asked⟩ := T.a_law_asked
 have G_law_asked : aK P w K mg base CX0 2 f_law_asked fd_law_asked qz yM := vP T A_law_asked.F
 refine F.oq jO fun _ _ _ _ H _ Q E hr h => ?_
 ·obtain ⟨c, lk, la, lw, ks, as, ws, rfl, hlk, hla, hne, g, hlw, hw8, hwn, q⟩ := h
  have hr1 : aR 1 _ := hr.mono (by decide)
  have hr2 : aR 2 _ := hr
  refine ⟨_, QSs.h (au (Gg (i := 4) jO.nd rfl (Or.inl rfl) (JS aX (Eg (b8 aJ (b8 aJ (b8 aJ (b8 aJ (b8 aJ (b8 aJ (b8 aJ (b8 aJ Cv))))))))) (aV A_law_pick G_law_pick hr1 (ak (pv 0) (ak aA (ak aA aq)))) (fun _ _ => rfl)))
   (au (jW (N := ["_law_name", "_law_known"]) [none, some 1] (i := 5) jO.nd rfl (Or.inl rfl) rfl (by kernel_rfl) (bj (pv 3)) (fun cl C fp s H => (aL (i := 0) (by decide +kernel : (["_law_name", "_law_known"] : List Str).Nodup) rfl (Or.inl rfl))) (fun cl C fp s H => (jH (aM (pG (K := K) rfl) (pv 0) (pv 1) (by rfl)))) (fun cl C fp s H => (pv 0)))
   (au (bz (aM (Ie (K := K) rfl hr.units) (pv 5) (bH aq) (aW _)) (aB (aN (iy (ak aJ (ak aJ (ak aJ (ak aJ aq))))))) aQ)
   (au (aP (i := 6) jO.nd rfl (Or.inl rfl) (bC aX (pv 5) (aV A_law_pick G_law_pick hr1 (ak (pv 0) (ak aA (ak (aY aZ (by rfl) T.len PySem.boot_len (ak (pv 5) aq)) aq)))) (fun _ _ => rfl)))
   (au (bz (aM dG (pv 4) aJ (aW _)) (aB (aP (i := 6) jO.nd rfl (Or.inl rfl) aJ)) aQ)
   (au (jW (N := ["_law_one"]) [none] (i := 7) jO.nd rfl (Or.inl rfl) rfl (by kernel_rfl) (bj (pv 2)) (fun cl C fp s H => (aL (i := 0) (by decide +kernel : (["_law_one"] : List Str).Nodup) rfl (Or.inl rfl))) (fun cl C fp s H => (jH (aM zY aJ (pv 0) (by rfl)))) (fun cl C fp s H => (pv 0)))
   (au (bz (PW.pt (rD (aM dG (pv 4) aJ (aW _)) (rD (aM (Io (K := K) rfl hr.units) (pv 7) (bH aq) (aW _)) (qD (aM dG (aV A_law_pick G_law_pick hr1 (ak (pv 0) (ak aA (ak aA aq)))) aA (aW _)))))) (au (aP (i := 8) jO.nd rfl (Or.inl rfl) (bC aX (pv 7) (aV A_law_pick G_law_pick hr1 (ak (pv 0) (ak aA (ak (aY aZ (by rfl) T.len PySem.boot_len (ak (pv 7) aq)) aq)))) (fun _ _ => rfl)))
   (aB (aN (iy (ak (pv 4) (ak (pv 6) (ak (bC xG (dD PySem.F.plainAttrs_str PySem.F.slot_str_rpartition PySem.F.type_str_rpartition vR (pv 8) (ak aJ aq)) aA (fun _ _ => rfl)) (ak (bC aX (dD PySem.F.plainAttrs_str PySem.F.slot_str_split PySem.F.type_str_split oE (pv 8) (ak aJ aq)) (rW ni aA) (fun _ _ => rfl)) aq)))))))) aQ)
   (aB (aN (iy (ak (pv 4) (ak (pv 6) (ak (aV A_law_asked G_law_asked hr2 (ak (pv 0) (ak (pv 2) (ak (pv 3) aq)))) (ak (bC aX (pv 3) (aV A_law_pick G_law_pick hr1 (ak (pv 0) (ak aA (ak aA aq)))) (fun _ _ => rfl)) aq)))))))))))))), ?_⟩
  have hfl : ∀ zs : List Str, (zs.map V.str).all cN = true := dC
  have hw0 : ws ≠ [] := fun z => by rw [z] at hw8; cases hw8
  refine ⟨by show 8 ≤ sizeLine; decide, fun b hb => ?_⟩
  obtain ⟨so, hso, eso⟩ := Dn (d9 c 1 (m := 8) (by decide)) (fP c 1 (m := 8) (by decide))
  refine ⟨_, rfl, c, 1, 8, rfl, by decide, by decide, by decide, fun H1 s1 => ⟨b, GJ, _, _, rfl, rfl, SqL.of (s1 _ _ ao), eso, ?_⟩⟩
  have s01 : az H H1 := (az.new hb).trans s1
  clear s1 eso
  refine ⟨_, rfl, lw, rfl, ⟨_, SqL.of (s01 _ _ hlw)⟩, bV (xs := ws.map V.str) (fun v => !inV v (ks.map V.str)) (Nat.le_trans (show (ws.map V.str).length ≤ 8 by rw [List.length_map]; omega) (by decide)) (SqL.of (s01 _ _ hlw)) (fun x H' Q' hx sm k => ?_) (fun x H' Q' hx sm k => ?_) (fun H2 s2 fr hfr => ?_)⟩
  ·obtain ⟨s, _, rfl⟩ := List.mem_map.mp hx
   exact ⟨_, rfl, _, rfl, lk, _, rfl, .inl (SqL.of ((s01.trans sm) _ _ hlk)), rfl, hfl _, _, rfl, k H' (az.refl _)⟩
  ·exact ⟨_, rfl, k H' (az.refl _)⟩
  have s03 : az H (upd H2 fr (.lst ((ws.map V.str).filter fun v => !inV v (ks.map V.str)))) := (s01.trans s2).put hfr
  have hf3 : (upd H2 fr (.lst ((ws.map V.str).filter fun v => !inV v (ks.map V.str)))) fr = some (.lst ((ws.filter fun w => !inV (.str w) (ks.map V.str)).map V.str)) := ao.trans (by rw [dB])
  generalize upd H2 fr (.lst ((ws.map V.str).filter fun v => !inV v (ks.map V.str))) = H3 at s03 hf3
  have hfree : ∀ z ∈ ws.filter (fun w => !inV (.str w) (ks.map V.str)), z ∈ ws ∧ z ∉ ks := fun z hz => by
   obtain ⟨h1, h2⟩ := List.mem_filter.mp hz
   refine ⟨h1, fun hk => ?_⟩
   rw [pq (List.mem_map.mpr ⟨z, hk, rfl⟩)] at h2
   cases h2
  generalize ws.filter (fun w => !inV (.str w) (ks.map V.str)) = fs at hf3 hfree
  refine ⟨_, rfl, by show 0 ≤ sizeLine; decide, fun e he => ⟨fr, e, fs.map V.str, rfl, rfl, SqL.of ((az.new he) _ _ hf3), SqL.of ao, _, rfl, ?_⟩⟩
  have s04 : az H (upd H3 e (.lst [])) := s03.put he
  have hf4 : (upd H3 e (.lst [])) fr = some (.lst (fs.map V.str)) := (az.new he) _ _ hf3
  generalize upd H3 e (.lst []) = H4 at s04 hf4
  by_cases hfe : fs = []
  ·subst hfe
   refine gj rfl ?_
   exact ⟨by show 4 ≤ sizeLine; decide, fun p hp => q p _ 5 "" "" "" (s04.free hp) (s04.put hp) ao ⟨by decide, (fun z => absurd z (by decide)), (fun _ => rfl), .inl ⟨rfl, rfl⟩⟩ (fun z => absurd z (by decide))⟩
  refine bA (by cases fs with | nil => exact absurd rfl hfe | cons x y => rfl) ?_
  have hfl0 : 0 < (fs.length : Int) := by have := List.length_pos_iff.mpr hfe; omega
  obtain ⟨n0, hn0, ean⟩ := eU (c := c) (k := 5) hfe
  obtain ⟨hn0w, hn0k⟩ := hfree n0 hn0
  refine ⟨_, rfl, _, rfl, _, rfl, fr, _, rfl, .inl (SqL.of hf4), c, 5, fs.length, (show [V.int c, V.int 5, V.int (fs.map V.str).length] = [V.int c, V.int 5, V.int fs.length] by rw [List.length_map]), by decide, by decide, hfl0, fun H5 s5 => ⟨fr, _, _, _, rfl, rfl, SqL.of (s5 _ _ hf4), ean, ?_⟩⟩
  have s05 : az H H5 := s04.trans s5
  obtain ⟨nm, hnm⟩ : ∃ nm : Str, nm = if so = 5 then ("" : Str) else n0 := ⟨_, rfl⟩
  have hn1 : so < 5 → cX nm := fun z => by rw [hnm, if_neg (by omega)]; exact hwn n0 hn0w
  have hn2 : so = 5 → nm = "" := fun z => by rw [hnm, if_pos z]
  have hn3 : so < 5 → nm ∈ ws ∧ nm ∉ ks := fun z => by rw [hnm, if_neg (by omega)]; exact ⟨hn0w, hn0k⟩
  have hlen : ((as.map dotted).map V.str).length ≤ 12 := by rw [List.length_map, List.length_map]; exact g.hi
  by_cases h5 : so = 5
  ·subst h5
   refine ⟨_, rfl, rfl, _, rfl, gj (sT 5) ?_⟩
   obtain rfl : nm = "" := hn2 rfl
   refine ⟨_, rfl, la, rfl, ⟨_, SqL.of (s05 _ _ hla)⟩, bV (xs := (as.map dotted).map V.str) o8 (Nat.le_trans hlen (by decide)) (SqL.of (s05 _ _ hla)) (fun x H' Q' hx sm k => ?_) (fun x H' Q' hx sm k => ?_) (fun H6 s6 bn hbn => ?_)⟩
   ·obtain ⟨z, _, rfl⟩ := List.mem_map.mp hx
    exact ⟨_, rfl, _, _, rfl, rfl, _, rfl, k H' (az.refl _)⟩
   ·exact ⟨_, rfl, k H' (az.refl _)⟩
   have s07 : az H (upd H6 bn (.lst (((as.map dotted).map V.str).filter o8))) := (s05.trans s6).put hbn
   have hb7 : (upd H6 bn (.lst (((as.map dotted).map V.str).filter o8))) bn = some (.lst (((as.map dotted).filter fun z => o8 (.str z)).map V.str)) := ao.trans (by rw [dB])
   generalize upd H6 bn (.lst (((as.map dotted).map V.str).filter o8)) = H7 at s07 hb7
   refine ⟨_, rfl, rfl, _, rfl, bA (sF 5 4) (jy ?_)⟩
   obtain ⟨w, hw, eaw⟩ := eU (c := c) (k := 6) hw0
   rw [hw8] at eaw
   refine ⟨_, rfl, _, rfl, _, rfl, _, rfl, _, rfl, c, la, lw, as, ws, rfl, s07 _ _ hla, hne, g, s07 _ _ hlw, hw8, hwn, fun ys gy Ha sa => ⟨_, rfl, _, rfl, c, 6, 8, rfl, by decide, by decide, by decide, fun Hb sb2 => ⟨lw, _, _, _, rfl, rfl, SqL.of ((s07.trans (sa.trans sb2)) _ _ hlw), eaw, by show 4 ≤ sizeLine; decide, fun t ht => ?_⟩⟩⟩
   exact q t _ _ _ (dotted ys) w ((s07.trans (sa.trans sb2)).free ht) ((s07.trans (sa.trans sb2)).put ht) ao ⟨hso, hn1, hn2, .inr ⟨ys, gy, rfl, hwn w hw⟩⟩ hn3
  ·refine ⟨_, rfl, rfl, _, rfl, bA (sF so 5 (by unfold pQ; rw [decide_eq_false h5]; rfl) hso) ?_⟩
   obtain rfl : nm = n0 := by rw [hnm, if_neg h5]
   refine ⟨_, rfl, la, rfl, ⟨_, SqL.of (s05 _ _ hla)⟩, bV (xs := (as.map dotted).map V.str) o8 (Nat.le_trans hlen (by decide)) (SqL.of (s05 _ _ hla)) (fun x H' Q' hx sm k => ?_) (fun x H' Q' hx sm k => ?_) (fun H6 s6 bn hbn => ?_)⟩
   ·obtain ⟨z, _, rfl⟩ := List.mem_map.mp hx
    exact ⟨_, rfl, _, _, rfl, rfl, _, rfl, k H' (az.refl _)⟩
   ·exact ⟨_, rfl, k H' (az.refl _)⟩
   have s07 : az H (upd H6 bn (.lst (((as.map dotted).map V.str).filter o8))) := (s05.trans s6).put hbn
   have hb7 : (upd H6 bn (.lst (((as.map dotted).map V.str).filter o8))) bn = some (.lst (((as.map dotted).filter fun z => o8 (.str z)).map V.str)) := ao.trans (by rw [dB])
   generalize upd H6 bn (.lst (((as.map dotted).map V.str).filter o8)) = H7 at s07 hb7
   by_cases h4 : so = 4
   ·subst h4
    refine ⟨_, rfl, rfl, _, rfl, gj (sT 4) ?_⟩
    have hbt : ∀ z ∈ (as.map dotted).filter (fun z => o8 (.str z)), ∃ xs b, xs ++ [b] ∈ as ∧ z = dotted (xs ++ [b]) ∧ xs ≠ [] := fun z hz => yC g hz
    generalize (as.map dotted).filter (fun z => o8 (.str z)) = bs at hb7 hbt
    refine ⟨_, rfl, by show 0 ≤ sizeLine; decide, fun e2 he2 => ⟨bn, e2, bs.map V.str, rfl, rfl, SqL.of ((az.new he2) _ _ hb7), SqL.of ao, _, rfl, ?_⟩⟩
    have s08 : az H (upd H7 e2 (.lst [])) := s07.put he2
    have hb8 : (upd H7 e2 (.lst [])) bn = some (.lst (bs.map V.str)) := (az.new he2) _ _ hb7
    generalize upd H7 e2 (.lst []) = H8 at s08 hb8
    by_cases hbe : bs = []
    ·subst hbe
     refine bA rfl (jy ?_)
     obtain ⟨w, hw, eaw⟩ := eU (c := c) (k := 6) hw0
     rw [hw8] at eaw
     refine ⟨_, rfl, _, rfl, _, rfl, _, rfl, _, rfl, c, la, lw, as, ws, rfl, s08 _ _ hla, hne, g, s08 _ _ hlw, hw8, hwn, fun ys gy Ha sa => ⟨_, rfl, _, rfl, c, 6, 8, rfl, by decide, by decide, by decide, fun Hb sb2 => ⟨lw, _, _, _, rfl, rfl, SqL.of ((s08.trans (sa.trans sb2)) _ _ hlw), eaw, by show 4 ≤ sizeLine; decide, fun t ht => ?_⟩⟩⟩
     exact q t _ _ _ (dotted ys) w ((s08.trans (sa.trans sb2)).free ht) ((s08.trans (sa.trans sb2)).put ht) ao ⟨hso, hn1, hn2, .inr ⟨ys, gy, rfl, hwn w hw⟩⟩ hn3
    refine gj (by cases bs with | nil => exact absurd rfl hbe | cons x y => rfl) ?_
    refine ⟨_, rfl, c, 7, 2, rfl, by decide, by decide, by decide, fun H9 s9 => ⟨rfl, _, rfl, gh (fun _ => ?_) (fun _ => ?_)⟩⟩
    ·have s09 := s08.trans s9
     have hbl0 : 0 < (bs.length : Int) := by have := List.length_pos_iff.mpr hbe; omega
     obtain ⟨z, hz, eab⟩ := eU (c := c) (k := 8) hbe
     obtain ⟨xs, b2, hxb, rfl, hxs⟩ := hbt z hz
     have gx := g.ok _ hxb
     have h36 := gx.len
     have nb : cX b2 := gx.nm b2 (by simp)
     have gp : cO xs := ⟨hxs, by have := gx.hi; rw [List.length_append] at this; exact Nat.le_trans (Nat.le_add_right _ _) this, fun y hy => gx.nm y (List.mem_append_left _ hy)⟩
     refine ⟨_, rfl, _, rfl, _, rfl, bn, _, rfl, .inl (SqL.of (s9 _ _ hb8)), c, 8, bs.length, (show [V.int c, V.int 8, V.int (bs.map V.str).length] = [V.int c, V.int 8, V.int bs.length] by rw [List.length_map]), by decide, by decide, hbl0, fun Ha sa => ⟨bn, _, _, _, rfl, rfl, SqL.of ((s9.trans sa) _ _ hb8), eab, ?_⟩⟩
     have s0a := s09.trans sa
     refine ⟨_, rfl, _, rfl, _, rfl, rfl, _, _, rfl, rfl, by decide +kernel, Nat.le_trans h36 (by decide), fun p1 hp1 => ⟨p1, _, _, _, rfl, rfl, SqT.of ao, bu (j := 0) rfl, ?_⟩⟩
     rw [qN xs b2 hxs nb]
     have s0b : az H (upd Ha p1 (.tup [V.str (dotted xs), V.str ".", V.str b2])) := s0a.put hp1
     generalize upd Ha p1 (.tup [V.str (dotted xs), V.str ".", V.str b2]) = Hb at s0b
     refine ⟨_, rfl, rfl, _, _, rfl, rfl, by decide +kernel, Nat.le_trans (show (dotted (xs ++ [b2])).length + 2 ≤ 1000 by omega) ik, fun p2 hp2 => ?_⟩
     rw [dq _ gx.lo gx.nm]
     refine ⟨_, rfl, p2, _, _, _, rfl, rfl, SqL.of ao, qt, by show 4 ≤ sizeLine; decide, fun t ht => ?_⟩
     exact q t _ 4 _ (dotted xs) b2 ((s0b.put hp2).free ht) ((s0b.put hp2).put ht) ao ⟨by decide, hn1, hn2, .inr ⟨xs, gp, rfl, nb⟩⟩ hn3
    ·have s09 := s08.trans s9
     obtain ⟨w, hw, eaw⟩ := eU (c := c) (k := 6) hw0
     rw [hw8] at eaw
     refine ⟨_, rfl, _, rfl, _, rfl, _, rfl, _, rfl, c, la, lw, as, ws, rfl, s09 _ _ hla, hne, g, s09 _ _ hlw, hw8, hwn, fun ys gy Ha sa => ⟨_, rfl, _, rfl, c, 6, 8, rfl, by decide, by decide, by decide, fun Hb sb2 => ⟨lw, _, _, _, rfl, rfl, SqL.of ((s09.trans (sa.trans sb2)) _ _ hlw), eaw, by show 4 ≤ sizeLine; decide, fun t ht => ?_⟩⟩⟩
     exact q t _ _ _ (dotted ys) w ((s09.trans (sa.trans sb2)).free ht) ((s09.trans (sa.trans sb2)).put ht) ao ⟨hso, hn1, hn2, .inr ⟨ys, gy, rfl, hwn w hw⟩⟩ hn3
   refine ⟨_, rfl, rfl, _, rfl, bA (sF so 4 (by unfold pQ; rw [decide_eq_false h4]; rfl) hso) (jy ?_)⟩
   obtain ⟨w, hw, eaw⟩ := eU (c := c) (k := 6) hw0
   rw [hw8] at eaw
   refine ⟨_, rfl, _, rfl, _, rfl, _, rfl, _, rfl, c, la, lw, as, ws, rfl, s07 _ _ hla, hne, g, s07 _ _ hlw, hw8, hwn, fun ys gy Ha sa => ⟨_, rfl, _, rfl, c, 6, 8, rfl, by decide, by decide, by decide, fun Hb sb2 => ⟨lw, _, _, _, rfl, rfl, SqL.of ((s07.trans (sa.trans sb2)) _ _ hlw), eaw, by show 4 ≤ sizeLine; decide, fun t ht => ?_⟩⟩⟩
   exact q t _ _ _ (dotted ys) w ((s07.trans (sa.trans sb2)).free ht) ((s07.trans (sa.trans sb2)).put ht) ao ⟨hso, hn1, hn2, .inr ⟨ys, gy, rfl, hwn w hw⟩⟩ hn3
theorem wM (T : Tx K mg C) (F : Fun K "_law_rows" "_law_rows" lu f fd) : aK P w K mg base CX0 4 f fd vG (Bl K) := by
 obtain ⟨f_law_cell, fd_law_cell, A_law_cell⟩ := T.a_law_cell
 have G_law_cell : aK P w K mg base CX0 1 f_law_cell fd_law_cell pC (qy K) := uV A_law_cell.F T.len
 obtain ⟨f_law_pick, fd_law_pick, A_law_pick⟩ := T.a_law_pick
 have G_law_pick : aK P w K mg base CX0 1 f_law_pick fd_law_pick jt lK := km A_law_pick.F
 obtain ⟨f_law_drawn, fd_law_drawn, A_law_drawn⟩ := T.a_law_drawn
 have G_law_drawn : aK P w K mg base CX0 3 f_law_drawn fd_law_drawn qu yO := uP T A_law_drawn.F
 refine F.oq lR fun _ _ _ _ H _ Q E hr h => ?_
 ·obtain ⟨S, la, lw, ns, as, ws, rfl, hS, hla, hne, g, hlw, hw8, hwn, q⟩ := h
  have hr1 : aR 1 _ := hr.mono (by decide)
  have hr3 : aR 3 _ := hr
  refine ⟨_, QSs.h (au (aP (i := 3) lR.nd rfl (Or.inl rfl) jF)
   (au (cL PassesOwn.never rfl (bj (pv 1)) (aL (i := 4) lR.nd rfl (Or.inl rfl))
   (aB (QS.mk (iG (aR.u1 hr) (pv 3) (pv 4) (bH aq) rfl))))
   (au (cL PassesOwn.never rfl (pD (by rfl) T.range (ak aA (ak (aY (zQ rfl) (by rfl) T.min PyProof.Rows.boot_min (ak (aY aZ (by rfl) T.len PySem.boot_len (ak (pv 0) aq)) (ak aA aq))) aq))) (aL (i := 5) lR.nd rfl (Or.inl rfl))
   (au (aP (i := 6) lR.nd rfl (Or.inl rfl) (aV A_law_cell G_law_cell hr1 (ak (pv 0) (ak (pv 5) aq))))
   (au (aP (i := 7) lR.nd rfl (Or.inr rfl) (bC aX (pv 1) (aV A_law_pick G_law_pick hr1 (ak (pv 6) (ak aA (ak (aY aZ (by rfl) T.len PySem.boot_len (ak (pv 1) aq)) aq)))) (fun _ _ => rfl)))
   (au (jW (N := ["_law_row_here"]) [none] (i := 8) lR.nd rfl (Or.inl rfl) rfl (by kernel_rfl) (bj (cV (aR.u1 hr) (pv 3) (pv 7) (fun _ _ => rfl))) (fun cl C fp s H => (aL (i := 0) (by decide +kernel : (["_law_row_here"] : List Str).Nodup) rfl (Or.inl rfl))) (fun cl C fp s H => eN) (fun cl C fp s H => (bC (Gj (K := K) rfl) (pv 0) aA (fun _ _ => rfl))))
   (au (aP (i := 8) lR.nd rfl (Or.inl rfl) (aU o7 (pv 8) (b7 (N := ["_law_word", "_law_addresses_here", "_law_owner"]) [none, some 1, some 7] rfl (by kernel_rfl) (bj (pv 2)) (fun cl C fp s H => (aL (i := 0) (by decide +kernel : (["_law_word", "_law_addresses_here", "_law_owner"] : List Str).Nodup) rfl (Or.inl rfl))) (fun cl C fp s H => (jH (aM (uM (K := K) rfl) (aU bB (aU bB (pv 2) aJ) (pv 0)) (pv 1) (by rfl)))) (fun cl C fp s H => (pv 0)))))
   (aB (bz (aM qX (aY aZ (by rfl) T.len PySem.boot_len (ak (cV (aR.u1 hr) (pv 3) (pv 7) (fun _ _ => rfl)) aq)) aA (aW _)) (aB (bU (dD PySem.F.plainAttrs_list PySem.F.slot_list_append PySem.F.type_list_append fG (cV (aR.u1 hr) (pv 3) (pv 7) (fun _ _ => rfl)) (ak (aV A_law_drawn G_law_drawn hr3 (ak (pv 6) (ak (pv 8) (ak (pv 1) (ak (pv 2) aq))))) aq)))) aQ)))))))
   (aB (aN (pv 3)))))), ?_⟩
  have hfl : ∀ zs : List Str, (zs.map V.str).all cN = true := dC
  have h12 := g.hi
  have hml : ((as.map dotted).map V.str).length = as.length := by rw [List.length_map, List.length_map]
  refine fun R hR => ?_
  have s1 : az H (upd H R (.dK [])) := az.new hR
  have hR1 : (upd H R (.dK [])) R = some (.dK []) := ao
  generalize upd H R (.dK []) = H1 at s1 hR1
  refine ⟨_, rfl, la, rfl, ⟨_, SqL.of (s1 _ _ hla)⟩, ?_⟩
  refine cu (xs := (as.map dotted).map V.str) (fun i σ H2 => ∃ v4 v5 v6 v7 v8 L, ∃ rs : Nat → List Q4, σ = [some (.ref S), some (.ref la), some (.ref lw), some (.ref R), v4, v5, v6, v7, v8] ∧ az H H2 ∧ DictAt H H2 R as i L rs ∧ ∀ j, rs j = [])
   ⟨none, none, none, none, none, (fun _ => 0), (fun _ => []), rfl, s1, ⟨hR, (fun i hi => absurd hi (Nat.not_lt_zero _)), ⟨[], hR1, Nat.le_refl _, (fun i a hi => absurd hi (Nat.not_lt_zero _))⟩, (fun i hi => absurd hi (Nat.not_lt_zero _)), (fun i j hi => absurd hi (Nat.not_lt_zero _))⟩, fun _ => rfl⟩ ?_ ?_ ?_
  ·rintro i σ H2 _ ⟨v4, v5, v6, v7, v8, L, rs, rfl, sm, _⟩
   exact SqL.of (sm _ _ hla)
  ·rintro i x σ H2 hx ⟨v4, v5, v6, v7, v8, L, rs, rfl, sm, hd, he⟩
   obtain ⟨a, ha, rfl⟩ : ∃ a, as[i]? = some a ∧ x = V.str (dotted a) := by
    rw [List.getElem?_map, List.getElem?_map] at hx
    cases e : as[i]? with
    | none => rw [e] at hx; cases hx
    | some a => rw [e] at hx; cases hx; exact ⟨a, rfl, rfl⟩
   refine ⟨by show 0 ≤ sizeLine; decide, fun b hb => ?_⟩
   obtain ⟨kvs, hk, _⟩ := hd.dk
   obtain ⟨hkl, hd2⟩ := hd.more g.nd sm hb ha kvs hk
   have hi12 : i < 12 := by have := (List.getElem?_eq_some_iff.mp ha).1; omega
   have hk2 : (upd H2 b (.lst [])) R = some (.dK kvs) := (az.new hb) _ _ hk
   refine ⟨_, rfl, _, rfl, R, _, rfl, nJ.k (k := .inr (dotted a)) hk2 (Nat.lt_of_lt_of_le (show kvs.length < 1000 by omega) bZ), ?_⟩
   exact ⟨_, _, _, _, _, _, _, rfl, (sm.put hb).over hR, hd2, fun j => by show (if j = i then [] else rs j) = []; rw [he j]; split <;> rfl⟩
  ·rintro σ H2 ⟨v4, v5, v6, v7, v8, L, rs, rfl, sm, hd, he⟩
   rw [hml] at hd
   have hok : di as rs := ⟨(fun i _ => by rw [he i]; decide), (fun i _ d hd => by rw [he i] at hd; cases hd), (fun i a _ d hd => by rw [he i] at hd; cases hd)⟩
   clear he
   refine ⟨_, rfl, S, _, rfl, .inl (sm.seq hS), _, _, rfl, _, _, rfl, ⟨by decide, by decide, by split <;> omega, by split <;> omega⟩, ?_⟩
   refine mj (fun k σ H2 => ∃ v4 v5 v6 v7 v8 L, ∃ rs : Nat → List Q4, σ = [some (.ref S), some (.ref la), some (.ref lw), some (.ref R), v4, v5, v6, v7, v8] ∧ az H H2 ∧ DictAt H H2 R as as.length L rs ∧ di as rs) ⟨_, _, _, _, _, L, rs, rfl, sm, hd, hok⟩ ?_ ?_
   ·clear hd hok sm
    rintro k σ H3 hk ⟨v4, v5, v6, v7, v8, L, rs, rfl, sm, hd, hok⟩
    refine ⟨_, rfl, _, rfl, S, ns, 6 + (k : Int), rfl, sm.seq hS, by omega, fun H4 s4 => ?_⟩
    generalize pJ ns (6 + (k : Int)) = c
    have sm4 := sm.trans s4
    have hd4 := hd.same s4
    clear sm hd s4
    have hzl : 0 < ((as.map dotted).length : Int) := by have := List.length_pos_iff.mpr hne; rw [List.length_map]; omega
    obtain ⟨i, a, ha, eat⟩ := DW (c := c) (k := 0) hne
    refine ⟨_, rfl, _, rfl, _, rfl, la, _, rfl, .inl (SqL.of (sm4 _ _ hla)), c, 0, (as.map dotted).length, (show [V.int c, V.int 0, V.int ((as.map dotted).map V.str).length] = [V.int c, V.int 0, V.int (as.map dotted).length] by rw [List.length_map (f := V.str)]), by decide, by decide, hzl, fun H5 s5 => ⟨la, _, _, _, rfl, rfl, SqL.of ((sm4.trans s5) _ _ hla), eat, ?_⟩⟩
    have sm5 := sm4.trans s5
    have hd5 := hd4.same s5
    clear sm4 hd4 s5 eat hzl
    have hi := (List.getElem?_eq_some_iff.mp ha).1
    have ga := g.ok a (List.mem_of_getElem? ha)
    have h36 := ga.len
    obtain ⟨xs, hx5, hxl, hxt⟩ := hd5.ts i hi
    have hr12 := hok.hi i hi
    refine ⟨_, rfl, _, rfl, R, _, rfl, hd5.get hi ha (az.refl _), L i, rfl, ⟨_, SqL.of hx5⟩, fu (fun m => V.str (((rs i).map Q4.nm).getD m "")) (Nat.le_trans (show xs.length ≤ 12 by omega) (by decide)) (SqL.of hx5) (fun m x H' Q' hx sm k => ?_) (fun H6 s6 kn hkn => ?_)⟩
    ·have hm : m < (rs i).length := by rw [← hxl]; exact (List.getElem?_eq_some_iff.mp hx).1
     obtain ⟨p, e2, tp⟩ := hxt m (rs i)[m] (List.getElem?_eq_getElem hm)
     obtain rfl : x = .ref p := by rw [hx] at e2; exact Option.some.inj e2
     have k2 : Q' (V.str (((rs i).map Q4.nm).getD m "")) H' := k H' (az.refl _)
     have eg : ((rs i).map Q4.nm).getD m "" = (rs i)[m].nm := by simp [List.getD, hm]
     rw [eg] at k2
     exact ⟨_, rfl, p, _, _, _, rfl, rfl, SqT.of (sm _ _ tp), bu (j := 1) rfl, k2⟩
    rw [BR hxl]
    have s7 : az H5 (upd H6 kn (.lst (((rs i).map Q4.nm).map V.str))) := s6.put hkn
    have hk7 : (upd H6 kn (.lst (((rs i).map Q4.nm).map V.str))) kn = some (.lst (((rs i).map Q4.nm).map V.str)) := ao
    generalize upd H6 kn (.lst (((rs i).map Q4.nm).map V.str)) = H7 at s7 hk7
    have s07 := sm5.trans s7
    refine ⟨_, rfl, _, rfl, lw, rfl, ⟨_, SqL.of (s07 _ _ hlw)⟩, bV (xs := ws.map V.str) (fun v => inV (uK (dotted a) v) ((as.map dotted).map V.str)) (Nat.le_trans (show (ws.map V.str).length ≤ 8 by rw [List.length_map]; omega) (by decide)) (SqL.of (s07 _ _ hlw)) (fun x H' Q' hx sm k => ?_) (fun x H' Q' hx sm k => ?_) (fun H8 s8 fl hfl2 => ?_)⟩
    ·obtain ⟨w, hw, rfl⟩ := List.mem_map.mp hx
     exact ⟨_, rfl, _, _, rfl, rfl, abS h36 lA, _, rfl, _, _, rfl, rfl, abS (alS h36 lA) (hwn w hw).hi, _, rfl, la, _, rfl, .inl (SqL.of ((s07.trans sm) _ _ hla)), rfl, hfl _, _, rfl, k H' (az.refl _)⟩
    ·exact ⟨_, rfl, k H' (az.refl _)⟩
    have hk8 := s8 _ _ hk7
    have s9 : az H5 (upd H8 fl (.lst ((ws.map V.str).filter fun v => inV (uK (dotted a) v) ((as.map dotted).map V.str)))) := (s7.trans s8).put hfl2
    have hk9 : (upd H8 fl (.lst ((ws.map V.str).filter fun v => inV (uK (dotted a) v) ((as.map dotted).map V.str)))) kn = some (.lst (((rs i).map Q4.nm).map V.str)) := (az.new hfl2) _ _ hk8
    have hf9 : (upd H8 fl (.lst ((ws.map V.str).filter fun v => inV (uK (dotted a) v) ((as.map dotted).map V.str)))) fl = some (.lst ((ws.filter fun w => inV (uK (dotted a) (.str w)) ((as.map dotted).map V.str)).map V.str)) := ao.trans (by rw [dB])
    generalize upd H8 fl (.lst ((ws.map V.str).filter fun v => inV (uK (dotted a) v) ((as.map dotted).map V.str))) = H9 at s9 hk9 hf9
    have hfm : ∀ w ∈ ws, dotted a ++ "." ++ w ∈ as.map dotted → w ∈ ws.filter fun w => inV (uK (dotted a) (.str w)) ((as.map dotted).map V.str) := fun w hw hm => List.mem_filter.mpr ⟨hw, pq (List.mem_map.mpr ⟨_, hm, rfl⟩)⟩
    have hf8 : (ws.filter fun w => inV (uK (dotted a) (.str w)) ((as.map dotted).map V.str)).length ≤ 8 := by rw [← hw8]; exact List.length_filter_le _ _
    generalize (ws.filter fun w => inV (uK (dotted a) (.str w)) ((as.map dotted).map V.str)) = fs at hf9 hfm hf8
    refine ⟨kn, fl, _, _, rfl, rfl, hk9, hf9, Nat.le_trans (show (((rs i).map Q4.nm).map V.str).length + (fs.map V.str).length ≤ 20 by simp only [List.length_map]; omega) (by decide), fun e he => ?_⟩
    have s10 : az H5 (upd H9 e (.lst (((rs i).map Q4.nm).map V.str ++ fs.map V.str))) := s9.put he
    have he10 : (upd H9 e (.lst (((rs i).map Q4.nm).map V.str ++ fs.map V.str))) e = some (.lst (((rs i).map Q4.nm ++ fs).map V.str)) := ao.trans (by rw [List.map_append])
    generalize upd H9 e (.lst (((rs i).map Q4.nm).map V.str ++ fs.map V.str)) = H10 at s10 he10
    clear hk9 hf9 s9 hk8 hfl2 s8 hk7 s07 s7
    have s010 := sm5.trans s10
    have hx10 := s10 _ _ hx5
    refine ⟨_, rfl, _, rfl, R, _, rfl, hd5.get hi ha s10, L i, _, rfl, .inl (SqL.of hx10), _, _, rfl, rfl, _, rfl, gh (fun hlt => ?_) (fun _ => ?_)⟩
    ·have hlt : xs.length < 12 := by omega
     refine ⟨_, rfl, _, rfl, R, _, rfl, hd5.get hi ha s10, .inl ⟨rfl, _, SqL.of hx10⟩, _, rfl, _, rfl, _, rfl, _, rfl, c, e, la, lw, (rs i).map Q4.nm ++ fs, as, ws, rfl, he10, s010 _ _ hla, hne, g, s010 _ _ hlw, hw8, hwn, fun p H11 so nm ad wd hp s11 tp g4 hnk => ?_⟩
     have hx11 := s11 _ _ hx10
     refine ⟨L i, xs, _, rfl, rfl, hx11, Nat.lt_of_lt_of_le (show xs.length < 1000 by omega) bZ, ?_⟩
     have hd12 := (hd5.same (s10.trans s11)).row hi (d := ⟨so, nm, ad, wd⟩) tp xs hx11
     refine ⟨_, _, _, _, _, L, _, rfl, (s010.trans s11).over (hd5.l0 i hi), hd12, hok.row ha (by omega) g4 fun h5 hm => ?_⟩
     obtain ⟨h6, h7⟩ := hnk h5
     exact h7 (List.mem_append_right _ (hfm nm h6 hm))
    ·exact ⟨_, _, _, _, _, L, rs, rfl, s010, hd5.same s10, hok⟩
   ·rintro σ H3 ⟨v4, v5, v6, v7, v8, L, rs, rfl, sm, hd, hok⟩
    exact ⟨_, rfl, q R H3 L rs sm hd hok⟩
theorem xU (T : Tx K mg C) (F : Fun K "_law_row" "_law_row" lX f fd) : aK P w K mg base CX0 3 f fd zJ (yN C) := by
 obtain ⟨f_i_Deed, fd_i_Deed, A_i_Deed, M_Deed⟩ := T.i_Deed
 have G_i_Deed : aK P w K mg base CX0 1 f_i_Deed fd_i_Deed gM (vg C 1) := m6 T A_i_Deed.F
 obtain ⟨f_i_Draw, fd_i_Draw, A_i_Draw, M_Draw⟩ := T.i_Draw
 have G_i_Draw : aK P w K mg base CX0 1 f_i_Draw fd_i_Draw gC (vN C 2) := mW T A_i_Draw.F
 obtain ⟨f_i_Late, fd_i_Late, A_i_Late, M_Late⟩ := T.i_Late
 have G_i_Late : aK P w K mg base CX0 1 f_i_Late fd_i_Late gG (vN C 3) := m9 T A_i_Late.F
 obtain ⟨f_i_Let, fd_i_Let, A_i_Let, M_Let⟩ := T.i_Let
 have G_i_Let : aK P w K mg base CX0 1 f_i_Let fd_i_Let iW (vg C 0) := oK T A_i_Let.F
 obtain ⟨f_i_Need, fd_i_Need, A_i_Need, M_Need⟩ := T.i_Need
 have G_i_Need : aK P w K mg base CX0 1 f_i_Need fd_i_Need gQ (BW C) := nu T A_i_Need.F
 obtain ⟨f_i_Take, fd_i_Take, A_i_Take, M_Take⟩ := T.i_Take
 have G_i_Take : aK P w K mg base CX0 1 f_i_Take fd_i_Take gR (BZ C) := mU T A_i_Take.F
 refine F.oq sJ fun _ _ _ _ H _ Q E hr h => ?_
 ·obtain ⟨p, so, nn, aa, ww, rfl, hp, g4, q⟩ := h
  have hr2 : aR 2 _ := hr
  refine ⟨_, QSs.h (au (xX (pv 0) (oh (K := K) (n := 4) rfl rfl (bL (aL (i := 1) sJ.nd rfl (Or.inl rfl)) (bL (aL (i := 2) sJ.nd rfl (Or.inl rfl)) (bL (aL (i := 3) sJ.nd rfl (Or.inl rfl)) (bL (aL (i := 4) sJ.nd rfl (Or.inl rfl)) nO))))))
   (au (aP (i := 5) sJ.nd rfl (Or.inl rfl) (bH (ak (iy (ak aA (ak aJ (ak aA aq)))) aq)))
   (au (bz (aM t7 (pv 3) aJ (aW _)) (aB (aP (i := 5) sJ.nd rfl (Or.inl rfl) (bH (ak (iy (ak aA (ak aJ (ak (dJ sW (by rfl) T.t_tuple PyProof.Rows.boot_tuple (ak (dD PySem.F.plainAttrs_str PySem.F.slot_str_split PySem.F.type_str_split oE (pv 3) (ak aJ aq)) aq)) aq)))) (ak (iy (ak (rW ni aA) (ak aJ (ak (iy (ak (pv 4) aq)) aq)))) aq))))) aQ)
   (au (bz (aM dG (pv 1) aJ (aW _)) (aB (aN (nH M_Draw A_i_Draw.b G_i_Draw hr2 T.c_Draw (ak (pv 3) (ak (pv 2) aq))))) aQ)
   (au (bz (aM dG (pv 1) aJ (aW _)) (aB (aN (nH M_Late A_i_Late.b G_i_Late hr2 T.c_Late (ak (pv 3) (ak (pv 2) aq))))) aQ)
   (au (bz (aM dG (pv 1) aJ (aW _)) (aB (aN (nH M_Take A_i_Take.b G_i_Take hr2 T.c_Take (ak (pv 4) (ak (pv 3) (ak (pv 2) aq)))))) aQ)
   (au (bz (aM dG (pv 1) aJ (aW _)) (aB (aN (nH M_Let A_i_Let.b G_i_Let hr2 T.c_Let (ak (pv 2) (ak (pv 5) aq))))) aQ)
   (au (bz (aM dG (pv 1) aJ (aW _)) (aB (aN (nH M_Deed A_i_Deed.b G_i_Deed hr2 T.c_Deed (ak (pv 2) (ak (pv 5) aq))))) aQ)
   (aB (aN (nH M_Need A_i_Need.b G_i_Need hr2 T.c_Need (ak (pv 5) aq)))))))))))), ?_⟩
  have h5 := g4.h5
  refine ⟨_, rfl, p, _, rfl, SqT.of hp, rfl, _, _, rfl, _, _, rfl, _, _, rfl, _, _, rfl, rfl, ?_⟩
  refine ⟨by show 3 ≤ sizeLine; decide, fun t1 ht1 => ⟨by show 1 ≤ sizeLine; decide, fun l1 hl1 => ?_⟩⟩
  have s1 : az H (upd (upd H t1 (.tup [V.int 1, V.str "number", V.int 1])) l1 (.lst [V.ref t1])) := (az.new ht1).put hl1
  have hts1 : iz (upd (upd H t1 (.tup [V.int 1, V.str "number", V.int 1])) l1 (.lst [V.ref t1])) l1 [⟨1, .num 1⟩] := ⟨_, ao, rfl, fun i x e => by
   match i, e with
   | 0, e => cases e; exact ⟨_, rfl, t1, _, rfl, (az.new hl1) _ _ ao, rfl⟩
   | n + 1, e => simp at e⟩
  have hl1f : H l1 = none := (az.new ht1).free hl1
  generalize upd (upd H t1 (.tup [V.int 1, V.str "number", V.int 1])) l1 (.lst [V.ref t1]) = H1 at s1 hts1
  by_cases ha : aa = ""
  ·obtain rfl : so = 5 := by
    rcases g4.ha with ⟨_, z⟩ | ⟨ys, gy, e, _⟩
    ·exact z
    ·exact absurd (e.symm.trans ha) (tQ gy)
   have gr : GoodR ⟨5, "", dotted ["a"], "a", [⟨1, .num 1⟩]⟩ := ⟨by decide, fun z => absurd z (by decide), fun _ => rfl, ⟨_, zb O3, rfl⟩, O3, Ig, fun z => absurd z (by decide)⟩
   have en : nn = "" := g4.h0 rfl
   refine ⟨_, rfl, rfl, _, rfl, vC (decide_eq_true (congrArg V.str ha)) ?_⟩
   refine ⟨_, rfl, rfl, _, rfl, bA (sF 5 2) ⟨_, rfl, rfl, _, rfl, bA (sF 5 3) ⟨_, rfl, rfl, _, rfl, bA (sF 5 4) ⟨_, rfl, rfl, _, rfl, bA (sF 5 0) ⟨_, rfl, rfl, _, rfl, bA (sF 5 1) ?_⟩⟩⟩⟩⟩
   exact ⟨_, rfl, fun x dx hx hdx hne => ⟨x, dx, ⟨5, "", dotted ["a"], "a", [⟨1, .num 1⟩]⟩, l1, rfl, rfl, ao, hts1.same (bF hx hdx), by decide, fun l H' hl sb ra => ⟨rfl, q x l H' _ gr rfl en.symm (fun z => absurd z (by decide)) (s1.trans fun b o e => sb b o (bF hx hdx b o e) (aF e hx)) (s1.free hx) ((s1.trans (bF hx hdx)).free hl) ra⟩⟩⟩
  ·obtain ⟨ys, gy, rfl, hww⟩ := g4.ha.resolve_left fun z => ha z.1
   refine ⟨_, rfl, rfl, _, rfl, yu (decide_eq_false fun z => ha (V.str.inj z)) ?_⟩
   have h36 := gy.len
   refine ⟨_, rfl, rfl, _, _, rfl, rfl, by decide +kernel, Nat.le_trans (show (dotted ys).length + 2 ≤ 1000 by omega) ik, fun sp hsp => ⟨sp, _, rfl, .inl ⟨SqL.of ao, fun tp htp => ?_⟩⟩⟩
   have es : Txt.split (dotted ys) ("." : Str) = ys := dq ys gy.lo gy.nm
   have s2 : az H1 (upd (upd H1 sp (.lst ((Txt.split (dotted ys) ".").map V.str))) tp (.tup ((Txt.split (dotted ys) ".").map V.str))) := (az.new hsp).put htp
   have htp2 : (upd (upd H1 sp (.lst ((Txt.split (dotted ys) ".").map V.str))) tp (.tup ((Txt.split (dotted ys) ".").map V.str))) tp = some (.tup (ys.map V.str)) := ao.trans (by rw [es])
   generalize upd (upd H1 sp (.lst ((Txt.split (dotted ys) ".").map V.str))) tp (.tup ((Txt.split (dotted ys) ".").map V.str)) = H2 at s2 htp2
   refine ⟨by show 3 ≤ sizeLine; decide, fun t2 ht2 => ⟨_, rfl, _, rfl, by show 1 ≤ sizeLine; decide, fun t3 ht3 => ⟨by show 3 ≤ sizeLine; decide, fun t4 ht4 => ⟨by show 2 ≤ sizeLine; decide, fun l2 hl2 => ?_⟩⟩⟩⟩
   have s3 : az H2 (upd (upd (upd (upd H2 t2 (.tup [V.int 1, V.str "path", V.ref tp])) t3 (.tup [V.str ww])) t4 (.tup [V.int (-1), V.str "path", V.ref t3])) l2 (.lst [V.ref t2, V.ref t4])) := (((az.new ht2).put ht3).put ht4).put hl2
   have hts3 : iz (upd (upd (upd (upd H2 t2 (.tup [V.int 1, V.str "path", V.ref tp])) t3 (.tup [V.str ww])) t4 (.tup [V.int (-1), V.str "path", V.ref t3])) l2 (.lst [V.ref t2, V.ref t4])) l2 [⟨1, .nms false ys⟩, ⟨-1, .nms false [ww]⟩] := ⟨_, ao, rfl, fun i x e => by
    match i, e with
    | 0, e => cases e; exact ⟨_, rfl, t2, _, rfl, (az.new hl2) _ _ ((az.new ht4) _ _ ((az.new ht3) _ _ ao)), tp, rfl, s3 _ _ htp2⟩
    | 1, e => cases e; exact ⟨_, rfl, t4, _, rfl, (az.new hl2) _ _ ao, t3, rfl, (az.new hl2) _ _ ((az.new ht4) _ _ ao)⟩
    | n + 2, e => simp at e⟩
   have hl2f : H l2 = none := ((s1.trans s2).trans (((az.new ht2).put ht3).put ht4)).free hl2
   have s03 := s1.trans (s2.trans s3)
   generalize upd (upd (upd (upd H2 t2 (.tup [V.int 1, V.str "path", V.ref tp])) t3 (.tup [V.str ww])) t4 (.tup [V.int (-1), V.str "path", V.ref t3])) l2 (.lst [V.ref t2, V.ref t4]) = H3 at s03 hts3
   have gts := Ff gy hww
   have nc : ∀ t ∈ ([⟨1, .nms false ys⟩, ⟨-1, .nms false [ww]⟩] : List Trm), ∀ zs, t.th ≠ .nms true zs := fun t ht zs => by
    simp only [List.mem_cons, List.not_mem_nil, or_false] at ht
    rcases ht with rfl | rfl <;> intro z <;> cases z
   have gr : GoodR ⟨so, nn, dotted ys, ww, [⟨1, .nms false ys⟩, ⟨-1, .nms false [ww]⟩]⟩ := ⟨h5, g4.hn, g4.h0, ⟨ys, gy, rfl⟩, hww, gts, fun _ => nc⟩
   have l10 : ([⟨1, .nms false ys⟩, ⟨-1, .nms false [ww]⟩] : List Trm).length ≤ 10 := by show 2 ≤ 10; decide
   have q3 : ∀ a l H', az H3 H' → H3 a = none → H3 l = none → cA C H' a l ⟨so, nn, dotted ys, ww, [⟨1, .nms false ys⟩, ⟨-1, .nms false [ww]⟩]⟩ → Q (.ref a) H' := fun a l H' s ha hl ra => q a l H' _ gr rfl rfl (fun _ => ⟨rfl, rfl⟩) (s03.trans s) (s03.free ha) (s03.free hl) ra
   clear q gr
   rcases six h5 with rfl | rfl | rfl | rfl | rfl | rfl
   ·exact ⟨_, rfl, rfl, _, rfl, bA (sF 0 2) ⟨_, rfl, rfl, _, rfl, bA (sF 0 3) ⟨_, rfl, rfl, _, rfl, bA (sF 0 4) ⟨_, rfl, rfl, _, rfl, gj (sT 0) ⟨_, rfl, _, rfl, fun x dx hx hdx hne => ⟨x, dx, ⟨0, nn, dotted ys, ww, _⟩, l2, rfl, rfl, ao, hts3.same (bF hx hdx), l10, fun l H' hl sb ra => ⟨rfl, q3 x l H' (fun b o e => sb b o (bF hx hdx b o e) (aF e hx)) hx ((bF hx hdx).free hl) ra⟩⟩⟩⟩⟩⟩⟩
   ·exact ⟨_, rfl, rfl, _, rfl, bA (sF 1 2) ⟨_, rfl, rfl, _, rfl, bA (sF 1 3) ⟨_, rfl, rfl, _, rfl, bA (sF 1 4) ⟨_, rfl, rfl, _, rfl, bA (sF 1 0) ⟨_, rfl, rfl, _, rfl, gj (sT 1) ⟨_, rfl, _, rfl, fun x dx hx hdx hne => ⟨x, dx, ⟨1, nn, dotted ys, ww, _⟩, l2, rfl, rfl, ao, hts3.same (bF hx hdx), l10, fun l H' hl sb ra => ⟨rfl, q3 x l H' (fun b o e => sb b o (bF hx hdx b o e) (aF e hx)) hx ((bF hx hdx).free hl) ra⟩⟩⟩⟩⟩⟩⟩⟩
   ·exact ⟨_, rfl, rfl, _, rfl, gj (sT 2) ⟨_, rfl, _, rfl, fun x dx hx hdx hne => ⟨x, dx, ⟨2, nn, dotted ys, ww, _⟩, rfl, rfl, ao, fun H' sb ra => ⟨rfl, q3 x x H' (fun b o e => sb b o (bF hx hdx b o e) (aF e hx)) hx hx (ra x)⟩⟩⟩⟩
   ·exact ⟨_, rfl, rfl, _, rfl, bA (sF 3 2) ⟨_, rfl, rfl, _, rfl, gj (sT 3) ⟨_, rfl, _, rfl, fun x dx hx hdx hne => ⟨x, dx, ⟨3, nn, dotted ys, ww, _⟩, rfl, rfl, ao, fun H' sb ra => ⟨rfl, q3 x x H' (fun b o e => sb b o (bF hx hdx b o e) (aF e hx)) hx hx (ra x)⟩⟩⟩⟩⟩
   ·exact ⟨_, rfl, rfl, _, rfl, bA (sF 4 2) ⟨_, rfl, rfl, _, rfl, bA (sF 4 3) ⟨_, rfl, rfl, _, rfl, gj (sT 4) ⟨_, rfl, _, rfl, _, rfl, fun x dx hx hdx hne => ⟨x, dx, ⟨4, nn, dotted ys, ww, _⟩, rfl, rfl, ao, fun H' sb ra => ⟨rfl, q3 x x H' (fun b o e => sb b o (bF hx hdx b o e) (aF e hx)) hx hx (ra x)⟩⟩⟩⟩⟩⟩
   ·exact ⟨_, rfl, rfl, _, rfl, bA (sF 5 2) ⟨_, rfl, rfl, _, rfl, bA (sF 5 3) ⟨_, rfl, rfl, _, rfl, bA (sF 5 4) ⟨_, rfl, rfl, _, rfl, bA (sF 5 0) ⟨_, rfl, rfl, _, rfl, bA (sF 5 1) ⟨_, rfl, fun x dx hx hdx hne => ⟨x, dx, ⟨5, nn, dotted ys, ww, _⟩, l2, rfl, rfl, ao, hts3.same (bF hx hdx), l10, fun l H' hl sb ra => ⟨rfl, q3 x l H' (fun b o e => sb b o (bF hx hdx b o e) (aF e hx)) hx ((bF hx hdx).free hl) ra⟩⟩⟩⟩⟩⟩⟩⟩
theorem uR (T : Tx K mg C) (F : Fun K "_law_parts" "_law_parts" iY f fd) : aK P w K mg base CX0 4 f fd qj (zz C) := by
 obtain ⟨f_law_row, fd_law_row, A_law_row⟩ := T.a_law_row
 have G_law_row : aK P w K mg base CX0 3 f_law_row fd_law_row zJ (yN C) := xU T A_law_row.F
 obtain ⟨f_i_Part, fd_i_Part, A_i_Part, M_Part⟩ := T.i_Part
 have G_i_Part : aK P w K mg base CX0 1 f_i_Part fd_i_Part gH (CW C) := mZ T A_i_Part.F
 refine F.oq FW fun _ _ _ _ H _ Q E hr h => ?_
 ·obtain ⟨H0, R, la, as, L, rs, rfl, hla, g, hd, hok, q⟩ := h
  have hr2 : aR 2 _ := hr.mono (by decide)
  have hr3 : aR 3 _ := hr
  refine ⟨_, QSs.h (aB (aN (b7 (N := ["_law_address", "_law_rows_here"]) [none, some 1] rfl (by kernel_rfl) (bj (pv 0)) (fun cl C fp s H => (aL (i := 0) (by decide +kernel : (["_law_address", "_law_rows_here"] : List Str).Nodup) rfl (Or.inl rfl))) (fun cl C fp s H => eN) (fun cl C fp s H => (nH M_Part A_i_Part.b G_i_Part hr2 T.c_Part (ak (pv 0) (ak (b7 (N := ["_law_row_here"]) [none] rfl (by kernel_rfl) (Ds (K := K) rfl (cV (aR.u1 hr) (pv 1) (pv 0) (fun _ _ => rfl))) (fun cl C fp s H => (aL (i := 0) (by decide +kernel : (["_law_row_here"] : List Str).Nodup) rfl (Or.inl rfl))) (fun cl C fp s H => eN) (fun cl C fp s H => (aV A_law_row G_law_row hr3 (ak (pv 0) aq)))) aq))))))), ?_⟩
  have h12 := g.hi
  have hml : ((as.map dotted).map V.str).length = as.length := by rw [List.length_map, List.length_map]
  refine ⟨_, rfl, la, rfl, ⟨_, SqL.of hla⟩, ?_⟩
  refine qQ (xs := (as.map dotted).map V.str) (fun τ => ∃ u, τ = [u, some (.ref R)]) (fun i v H' => ∃ p : bD, as[i]? = some p.ad ∧ (vD as p ∧ lC (rs i) p.rs) ∧ ∃ a lr, v = V.ref a ∧ fH C H' a (dotted p.ad) lr p.rs)
   (fun i v H' H'' ⟨p, e, ok, a, lr, ev, pa⟩ s => ⟨p, e, ok, a, lr, ev, pa.same s⟩) (Nat.le_trans (show _ ≤ 12 by omega) (by decide)) (SqL.of hla) ⟨_, rfl⟩ (fun i x τ H1 Q' hx s1 hS k => ?_) (fun ys H1 s1 hyl hys d hd => ?_)
  ·obtain ⟨u, rfl⟩ := hS
   obtain ⟨a, ha, rfl⟩ : ∃ a, as[i]? = some a ∧ x = V.str (dotted a) := by
    rw [List.getElem?_map, List.getElem?_map] at hx
    cases e : as[i]? with
    | none => rw [e] at hx; cases hx
    | some a => rw [e] at hx; cases hx; exact ⟨a, rfl, rfl⟩
   have hi := (List.getElem?_eq_some_iff.mp ha).1
   have ga := g.ok a (List.mem_of_getElem? ha)
   have hd1 := hd.same s1
   obtain ⟨xs, hx1, hxl, hxt⟩ := hd1.ts i hi
   have hr12 := hok.hi i hi
   refine ⟨_, rfl, _, rfl, _, rfl, R, _, rfl, hd1.get hi ha (az.refl _), L i, rfl, ⟨_, SqL.of hx1⟩, ?_⟩
   refine qQ (xs := xs) (fun τ => ∃ u, τ = [u]) (fun m v H' => ∃ r : bW, ut (rs i) m r ∧ ∃ a l, v = V.ref a ∧ cA C H' a l r)
    (fun m v H' H'' ⟨r, ok, a, l, ev, ra⟩ s => ⟨r, ok, a, l, ev, ra.same s⟩) (Nat.le_trans (show _ ≤ 12 by omega) (by decide)) (SqL.of hx1) ⟨_, rfl⟩ (fun m x τ H2 Q2 hx s2 hS k2 => ?_) (fun zs H2 s2 hzl hzs dz hdz => ?_)
   ·obtain ⟨u2, rfl⟩ := hS
    have hm : m < (rs i).length := by rw [← hxl]; exact (List.getElem?_eq_some_iff.mp hx).1
    have em : (rs i)[m]? = some (rs i)[m] := List.getElem?_eq_getElem hm
    obtain ⟨p, e2, tp⟩ := hxt m (rs i)[m] em
    obtain rfl : x = .ref p := by rw [hx] at e2; exact Option.some.inj e2
    exact ⟨_, rfl, p, _, _, _, _, rfl, s2 _ _ tp, hok.g4 i hi _ (List.getElem_mem hm), fun ra l H3 r gr e5 e6 e7 s3 _ _ rat => k2 _ _ _ ⟨_, rfl⟩ s3 ⟨r, ⟨_, em, gr, e5, e6, e7⟩, ra, l, rfl, rat⟩⟩
   obtain ⟨rr, hrl, hrr⟩ := fZ (fun m v r => ut (rs i) m r ∧ ∃ a l, v = V.ref a ∧ cA C H2 a l r) zs 0 (fun m v e => by rw [Nat.zero_add]; exact hzs m v e)
   have hra : pA C (upd H2 dz (.lst zs)) dz rr := ⟨zs, ao, hrl.symm, fun m r e => by
    have hm : m < zs.length := by rw [← hrl]; exact (List.getElem?_eq_some_iff.mp e).1
    obtain ⟨r2, e2, _, ra, l, e3, rat⟩ := hrr m _ (List.getElem?_eq_getElem hm)
    rw [e] at e2
    cases e2
    exact ⟨ra, l, by rw [List.getElem?_eq_getElem hm, e3], rat.same (az.new hdz)⟩⟩
   have hrm : ∀ (m : Nat) r, rr[m]? = some r → ut (rs i) m r := fun m r e => by
    have hm : m < zs.length := by rw [← hrl]; exact (List.getElem?_eq_some_iff.mp e).1
    obtain ⟨r2, e2, ok, _⟩ := hrr m _ (List.getElem?_eq_getElem hm)
    rw [e] at e2
    cases e2
    rw [Nat.zero_add] at ok
    exact ok
   have hro : ∀ r ∈ rr, ∃ m, ut (rs i) m r := fun r hr => by
    obtain ⟨m, hm, e⟩ := List.getElem_of_mem hr
    exact ⟨m, hrm m r (by rw [List.getElem?_eq_getElem hm, e])⟩
   have hgr : mR rr := ⟨by omega, fun r hr => by obtain ⟨m, d, _, gr, _⟩ := hro r hr; exact gr⟩
   have s3 : az H1 (upd H2 dz (.lst zs)) := s2.put hdz
   generalize upd H2 dz (.lst zs) = H3 at hra s3
   refine fun x dx hx hdx hne => ⟨x, dx, dotted a, dz, rr, rfl, ao, hra.same (bF hx hdx), hgr, fun l H4 hl sb pa => ⟨rfl, ?_⟩⟩
   refine k _ _ H4 ⟨_, rfl⟩ (s3.trans fun b o e => sb b o (bF hx hdx b o e) (aF e hx)) ⟨⟨a, rr⟩, ha, ⟨⟨⟨ga, hgr⟩, fun r hr hn => ?_⟩, (show rr.length = (rs i).length by omega), fun m r e => hrm m r e⟩, x, l, rfl, pa⟩
   obtain ⟨m, d, ed, gr, e5, e6, _⟩ := hro r hr
   have g4 := hok.g4 i hi d (List.mem_of_getElem? ed)
   have h5 : d.so < 5 := by
    rcases Nat.lt_or_ge d.so 5 with z | z
    ·exact z
    ·exact absurd (e6.trans (g4.h0 (Nat.le_antisymm g4.h5 z))) hn
   have := hok.cl i a ha d (List.mem_of_getElem? ed) h5
   rw [← e6] at this
   exact this
  ·obtain ⟨ps, hpl, hps⟩ := fZ (fun i v p => as[i]? = some p.ad ∧ (vD as p ∧ lC (rs i) p.rs) ∧ ∃ a lr, v = V.ref a ∧ fH C H1 a (dotted p.ad) lr p.rs) ys 0 (fun i v e => by rw [Nat.zero_add]; exact hys i v e)
   have hpa : ∀ (i : Nat) p, ps[i]? = some p → as[i]? = some p.ad ∧ (vD as p ∧ lC (rs i) p.rs) ∧ ∃ a lr, ys[i]? = some (V.ref a) ∧ fH C H1 a (dotted p.ad) lr p.rs := fun i p e => by
    have hi : i < ys.length := by rw [← hpl]; exact (List.getElem?_eq_some_iff.mp e).1
    obtain ⟨p2, e2, e3, ok, a, lr, e4, pa⟩ := hps i _ (List.getElem?_eq_getElem hi)
    rw [e] at e2
    cases e2
    rw [Nat.zero_add] at e3 ok
    exact ⟨e3, ok, a, lr, by rw [List.getElem?_eq_getElem hi, e4], pa⟩
   have hal : ps.length = as.length := by omega
   have ead : adS ps = as.map dotted := Hv hal fun i p e => (hpa i p e).1
   exact q d H1 ys ps s1 hd ⟨hpl.symm, fun i p e => (hpa i p e).2.2⟩ ead (DX g hal ead fun p hp => by
    obtain ⟨i, hi, e⟩ := List.getElem_of_mem hp
    obtain ⟨h1, h2, _⟩ := hpa i p (by rw [List.getElem?_eq_getElem hi, e])
    exact ⟨List.mem_of_getElem? h1, h2.1⟩) (fun i p e => ⟨(hpa i p e).1, (hpa i p e).2.1.2⟩)
theorem wX (T : Tx K mg C) (F : Fun K "_law_made" "_law_made" jY f fd) : aK P w K mg base CX0 5 f fd u5 (wO K) := by
 obtain ⟨f_law_words, fd_law_words, A_law_words⟩ := T.a_law_words
 have G_law_words : aK P w K mg base CX0 2 f_law_words fd_law_words qH zH := uz T A_law_words.F
 obtain ⟨f_law_addresses, fd_law_addresses, A_law_addresses⟩ := T.a_law_addresses
 have G_law_addresses : aK P w K mg base CX0 2 f_law_addresses fd_law_addresses jd Di := o5 T A_law_addresses.F
 obtain ⟨f_law_cell, fd_law_cell, A_law_cell⟩ := T.a_law_cell
 have G_law_cell : aK P w K mg base CX0 1 f_law_cell fd_law_cell pC (qy K) := uV A_law_cell.F T.len
 obtain ⟨f_law_pick, fd_law_pick, A_law_pick⟩ := T.a_law_pick
 have G_law_pick : aK P w K mg base CX0 1 f_law_pick fd_law_pick jt lK := km A_law_pick.F
 obtain ⟨f_law_rows, fd_law_rows, A_law_rows⟩ := T.a_law_rows
 have G_law_rows : aK P w K mg base CX0 4 f_law_rows fd_law_rows vG (Bl K) := wM T A_law_rows.F
 refine F.oq sr fun _ _ _ _ H _ Q E hr h => ?_
 ·obtain ⟨S, ns, rfl, hS, q⟩ := h
  have hr1 : aR 1 _ := hr.mono (by decide)
  have hr2 : aR 2 _ := hr.mono (by decide)
  have hr4 : aR 4 _ := hr
  refine ⟨_, QSs.h (au (aP (i := 1) sr.nd rfl (Or.inl rfl) (aV A_law_words G_law_words hr2 (ak (aV A_law_cell G_law_cell hr1 (ak (pv 0) (ak aA aq))) aq)))
   (au (aP (i := 2) sr.nd rfl (Or.inl rfl) (aU cY aA (aV A_law_pick G_law_pick hr1 (ak (aV A_law_cell G_law_cell hr1 (ak (pv 0) (ak aA aq))) (ak aA (ak aA aq))))))
   (au (bz (aM dG (aV A_law_pick G_law_pick hr1 (ak (aV A_law_cell G_law_cell hr1 (ak (pv 0) (ak aA aq))) (ak aA (ak aA aq)))) aA (aW _)) (aB (aP (i := 2) sr.nd rfl (Or.inl rfl) aA)) aQ)
   (au (aP (i := 3) sr.nd rfl (Or.inl rfl) (aV A_law_addresses G_law_addresses hr2 (ak (aV A_law_cell G_law_cell hr1 (ak (pv 0) (ak aA aq))) (ak (pv 2) (ak (pv 1) aq)))))
   (aB (aN (iy (ak (pv 1) (ak (pv 3) (ak (aV A_law_rows G_law_rows hr4 (ak (pv 0) (ak (pv 3) (ak (pv 1) aq)))) aq)))))))))), ?_⟩
  refine ⟨_, rfl, S, ns, 2, rfl, hS, by decide, fun H1 s1 => ⟨_, rfl, fun lw H2 ws hlw0 s2 hw8 hwn hlw => ?_⟩⟩
  have s02 := s1.trans s2
  refine ⟨_, rfl, S, ns, 0, rfl, s02.seq hS, by decide, fun H3 s3 => ⟨_, 0, 6, rfl, by decide, by decide, by decide, fun H4 s4 => ⟨_, _, rfl, rfl, ?_⟩⟩⟩
  have k1 := d9 (pJ ns 0) 0 (m := 6) (by decide)
  have k2 := fP (pJ ns 0) 0 (m := 6) (by decide)
  generalize pick (pJ ns 0) 0 6 = mn at k1 k2
  have s24 := s3.trans s4
  refine ⟨_, rfl, S, ns, 0, rfl, (s02.trans s24).seq hS, by decide, fun H5 s5 => ⟨_, 1, 8, rfl, by decide, by decide, by decide, fun H6 s6 => ⟨rfl, _, rfl, gh (fun _ => ?_) (fun _ => ?_)⟩⟩⟩
  all_goals
   have s26 := s24.trans (s5.trans s6)
   refine ⟨_, rfl, S, ns, 1, rfl, (s02.trans s26).seq hS, by decide, fun H7 s7 => ⟨_, rfl, _, rfl, _, _, lw, ws, rfl, by omega, by omega, (s26.trans s7) _ _ hlw, hw8, hwn, fun la H8 as _ s8 hne g hla => ?_⟩⟩
   have s28 := s26.trans (s7.trans s8)
   refine ⟨_, rfl, _, rfl, _, rfl, _, rfl, _, rfl, S, la, lw, ns, as, ws, rfl, (s02.trans s28).seq hS, hla, hne, g, s28 _ _ hlw, hw8, hwn, fun R H9 L rs s9 hd hok => ⟨by show 3 ≤ sizeLine; decide, fun p hp => ?_⟩⟩
   exact q p lw la R ws as L rs H8 _ ao (((s02.trans s28).trans s9).put hp) ((s9.put hp) _ _ (s28 _ _ hlw)) hw8 hwn ((s9.put hp) _ _ hla) hne g (hd.same (az.new hp)) hok
theorem pP (T : Tx K mg C) (F : Fun K "_law_prefixes" "_law_prefixes" dW f fd) : aK P w K mg base CX0 1 f fd kI qw := by
 refine F.oq qM fun _ _ _ _ H _ Q E hr h => ?_
 ·obtain ⟨ys, rfl, g, q⟩ := h
  refine ⟨_, QSs.h (au (aP (i := 1) qM.nd rfl (Or.inr rfl) (dD PySem.F.plainAttrs_str PySem.F.slot_str_split PySem.F.type_str_split oE (pv 0) (ak aJ aq)))
   (aB (aN (b7 (N := ["_law_k", "_law_names"]) [none, some 1] rfl (by kernel_rfl) (gU (by rfl) T.range (ak (aY aZ (by rfl) T.len PySem.boot_len (ak (pv 1) aq)) aq)) (fun cl C fp s H => (aL (i := 0) (by decide +kernel : (["_law_k", "_law_names"] : List Str).Nodup) rfl (Or.inl rfl))) (fun cl C fp s H => eN) (fun cl C fp s H => (vd (K := K) rfl PySem.F.plainAttrs_str PySem.F.slot_str_join PySem.F.type_str_join (sy rfl) aJ (ak (dm (sH (K := K) rfl) (pv 1) jf (cW (aU cY (pv 0) aA))) aq))))))), ?_⟩
  have h36 := g.len
  have h3 := g.hi
  refine ⟨_, rfl, rfl, _, _, rfl, rfl, by decide +kernel, Nat.le_trans (show (dotted ys).length + 2 ≤ 1000 by omega) ik, fun p hp => ?_⟩
  rw [dq ys g.lo g.nm]
  refine ⟨_, rfl, p, _, rfl, .inl (SqL.of ao), _, rfl, by omega, by rw [List.length_map]; omega, ?_⟩
  rw [List.length_map, Int.toNat_natCast]
  refine rP (fun i => V.str (dotted (ys.take (i + 1)))) (Nat.le_trans (show ys.length ≤ 3 by omega) (by decide)) (fun i H' Q' hi sm k' => ?_) (fun τ H Q Q' hh h => hh _ _ h) (fun H' sm p2 hp2 => ?_)
  ·refine ⟨rfl, rfl, _, rfl, _, rfl, _, _, rfl, rfl, _, rfl, p, _, rfl, SqL.of (sm _ _ ao), fun p3 hp3 => ?_⟩
   have e : (0 + (i : Int) + 1) = ((i + 1 : Nat) : Int) := by omega
   have hs : ((ys.take (i + 1)).map (·.length)).sum ≤ (ys.take (i + 1)).length * 8 := uD fun y hy => (g.nm y (List.mem_of_mem_take hy)).hi
   have ht : (ys.take (i + 1)).length ≤ 3 := Nat.le_trans (List.length_take_le' _ _) h3
   refine ⟨_, p3, ys.take (i + 1), rfl, rfl, .inl (SqL.of ?_), ?_, k' _ (az.new hp3)⟩
   ·rw [ao, e, jA _ (by omega)]; rfl
   ·rw [show (("." : Str)).length = 1 from by decide +kernel]; omega
  ·have h0 : H p2 = none := (az.new hp).free (sm.free hp2)
   refine q p2 _ h0 (((az.new hp).trans sm).put hp2) ?_
   rw [ao]
   unfold dM
   rw [List.map_map]
   rfl
theorem nZ (T : Tx K mg C) (F : Fun K "_law_links" "_law_links" jb f fd) : aK P w K mg base CX0 2 f fd nU rA := by
 obtain ⟨f_law_prefixes, fd_law_prefixes, A_law_prefixes⟩ := T.a_law_prefixes
 have G_law_prefixes : aK P w K mg base CX0 1 f_law_prefixes fd_law_prefixes kI qw := pP T A_law_prefixes.F
 refine F.oq lg fun _ _ _ _ H _ Q E hr h => ?_
 ·obtain ⟨H0, la, R, as, L, rs, i, a, rfl, hla, g, hd, hok, ha, q⟩ := h
  have hr1 : aR 1 _ := hr
  refine ⟨_, QSs.h (au (aP (i := 3) lg.nd rfl (Or.inr rfl) (dm iD (aV A_law_prefixes G_law_prefixes hr1 (ak (pv 0) aq)) (cW (rW ni aA)) (cW (rW ni aA))))
   (au (cL PassesOwn.never rfl (bj (cV (aR.u1 hr) (pv 2) (pv 0) (fun _ _ => rfl))) (oh (K := K) (n := 4) rfl rfl (bL (aL (i := 4) lg.nd rfl (Or.inl rfl)) (bL (aL (i := 5) lg.nd rfl (Or.inl rfl)) (bL (aL (i := 6) lg.nd rfl (Or.inl rfl)) (bL (aL (i := 7) lg.nd rfl (Or.inl rfl)) nO)))))
   (au (bz (aM jD (pv 4) (iy (ak aJ (ak aJ (ak aJ aq)))) (by rfl)) (aB (aP (i := 3) lg.nd rfl (Or.inr rfl) (aU o7 (pv 3) (aV A_law_prefixes G_law_prefixes hr1 (ak (pv 6) aq))))) aQ)
   (aB (bz (aM dG (pv 4) aJ (aW _)) (aB (bU (dD PySem.F.plainAttrs_list PySem.F.slot_list_append PySem.F.type_list_append fG (pv 3) (ak (aU bB (aU bB (pv 6) aJ) (pv 7)) aq)))) aQ))))
   (aB (aN (aY gB (by rfl) T.sorted PyProof.Rows.boot_sorted (ak (b7 (N := ["_law_one", "_law_named"]) [none, some 3] rfl (by kernel_rfl) (bj (pv 1)) (fun cl C fp s H => (aL (i := 0) (by decide +kernel : (["_law_one", "_law_named"] : List Str).Nodup) rfl (Or.inl rfl))) (fun cl C fp s H => (jH (aM (uM (K := K) rfl) (pv 0) (pv 1) (by rfl)))) (fun cl C fp s H => (pv 0))) aq)))))), ?_⟩
  have ga := g.ok a (List.mem_of_getElem? ha)
  have hi := (List.getElem?_eq_some_iff.mp ha).1
  refine ⟨_, rfl, a, rfl, ga, fun p0 H1 hp0 s1 hp1 => ⟨_, rfl, _, rfl, _, rfl, _, rfl, p0, _, rfl, SqL.of hp1, fun F hF => ?_⟩⟩
  have hF0 : H F = none := s1.free hF
  rw [show fB ((dM a).map V.str) (some (-2)) (some (-1)) = (oF a).map V.str from HH ga]
  have s2 : az H (upd H1 F (.lst ((oF a).map V.str))) := s1.put hF
  have hF2 : (upd H1 F (.lst ((oF a).map V.str))) F = some (.lst ((oF a).map V.str)) := ao
  generalize upd H1 F (.lst ((oF a).map V.str)) = H2 at s2 hF2
  have hfl : ∀ zs : List Str, (zs.map V.str).all cN = true := dC
  obtain ⟨xs, hx0, hxl, hxt⟩ := hd.ts i hi
  have hr12 := hok.hi i hi
  have hlnF : ∀ (ds : List Q4), (∀ d ∈ ds, d ∈ rs i) → ds.length ≤ 12 → (oF a ++ ds.flatMap iu).length ≤ 50 := fun ds hds h12 => by
   have h1 := Bw a
   have h2 := Al (ds := ds) fun d hd => hok.g4 i hi d (hds d hd)
   rw [List.length_append]; omega
  refine ⟨_, rfl, _, rfl, R, _, rfl, hd.get hi ha s2, L i, rfl, ⟨_, SqL.of (s2 _ _ hx0)⟩, ?_⟩
  refine cu (xs := xs) (fun k σ H' => ∃ v4 v5 v6 v7 F, σ = [some (.str (dotted a)), some (.ref la), some (.ref R), some (.ref F), v4, v5, v6, v7] ∧ H F = none ∧ az H H' ∧ H' F = some (.lst ((oF a ++ ((rs i).take k).flatMap iu).map V.str))) ⟨none, none, none, none, F, rfl, hF0, s2, by rw [List.take_zero, List.flatMap_nil, List.append_nil]; exact hF2⟩ ?_ ?_ ?_
  ·rintro k σ H' _ ⟨v4, v5, v6, v7, F, rfl, _, sm, _⟩
   exact SqL.of (sm _ _ hx0)
  ·rintro k x σ H' hx ⟨v4, v5, v6, v7, F, rfl, hF0, sm, hF'⟩
   have hk : k < (rs i).length := by rw [← hxl]; exact (List.getElem?_eq_some_iff.mp hx).1
   have er : (rs i)[k]? = some (rs i)[k] := List.getElem?_eq_getElem hk
   obtain ⟨p, e2, tp⟩ := hxt k _ er
   obtain rfl : x = .ref p := by rw [hx] at e2; exact Option.some.inj e2
   have g4 := hok.g4 i hi _ (List.getElem_mem hk)
   rw [oW er, ← List.append_assoc]
   have h50 := hlnF ((rs i).take k) (fun d hd => List.mem_of_mem_take hd) (Nat.le_trans (List.length_take_le' _ _) hr12)
   generalize oF a ++ ((rs i).take k).flatMap iu = us at hF' h50
   unfold TupAt at tp
   unfold iu
   generalize (rs i)[k] = d at tp g4
   obtain ⟨so, nm, ad, wd⟩ := d
   have h5 := g4.h5
   have g4 : G4 so nm ad wd := g4
   simp only at h5 tp ⊢
   refine ⟨p, _, rfl, SqT.of (sm _ _ tp), rfl, _, _, rfl, _, _, rfl, _, _, rfl, _, _, rfl, rfl, ?_⟩
   refine ⟨_, rfl, by show 3 ≤ sizeLine; decide, fun t3 ht3 => ⟨t3, dal, rfl, .inr (SqT.of ao), rfl, rfl, _, rfl, ?_⟩⟩
   have sm3 := sm.put (o := .tup dal) ht3
   have hF3 : (upd H' t3 (.tup dal)) F = some (.lst (us.map V.str)) := (az.new ht3) _ _ hF'
   change (if inV (V.str (eE so)) dal = true then _ else _)
   by_cases c : so = 2 ∨ so = 3 ∨ so = 4
   ·obtain ⟨ys, gy, rfl, nw⟩ := g4.ha.resolve_left fun z => by have := z.2; omega
    refine gj (by rw [yX h5]; exact decide_eq_true c) ?_
    rw [if_pos c]
    refine ⟨_, rfl, _, rfl, ys, rfl, gy, fun pp H4 hpp s4 hp4 => ?_⟩
    have h3 := gy.hi
    refine ⟨F, pp, _, _, rfl, rfl, s4 _ _ hF3, hp4, Nat.le_trans (show (us.map V.str).length + ((dM ys).map V.str).length ≤ 60 by rw [List.length_map, List.length_map, gW]; omega) (by decide), fun G hG => ?_⟩
    have sG : az H (upd H4 G (.lst (us.map V.str ++ (dM ys).map V.str))) := (sm3.trans s4).put hG
    have hG0 : H G = none := (sm3.trans s4).free hG
    have hG5 : (upd H4 G (.lst (us.map V.str ++ (dM ys).map V.str))) G = some (.lst ((us ++ mz (dotted ys)).map V.str)) := ao.trans (by rw [lY gy, List.map_append])
    generalize upd H4 G (.lst (us.map V.str ++ (dM ys).map V.str)) = H5 at sG hG5
    by_cases h4 : so = 4
    ·subst h4
     refine ⟨_, rfl, rfl, _, rfl, gj (sT 4) ?_⟩
     rw [if_pos rfl]
     have h36 := gy.len
     have hl6 : ((us ++ mz (dotted ys)).map V.str).length < 1000 := by rw [List.length_map, List.length_append, lY gy, gW]; omega
     refine ⟨_, rfl, .inl ⟨rfl, _, SqL.of hG5⟩, _, rfl, _, _, rfl, rfl, abS h36 lA, _, rfl, _, _, rfl, rfl, abS (alS h36 lA) nw.hi, G, _, _, rfl, rfl, hG5, Nat.lt_of_lt_of_le hl6 bZ, ?_⟩
     exact ⟨_, _, _, _, G, rfl, hG0, sG.over hG0, ao.trans (by rw [← List.append_assoc]; exact congrArg (fun z => some (HO.lst z)) (List.map_append (l₁ := us ++ mz (dotted ys)) (l₂ := [dotted ys ++ "." ++ wd])).symm)⟩
    ·rw [if_neg h4, List.append_nil]
     exact ⟨_, rfl, rfl, _, rfl, bA (sF so 4 (by unfold pQ; rw [decide_eq_false h4]; rfl) h5) ⟨_, _, _, _, G, rfl, hG0, sG, hG5⟩⟩
   ·have h4 : so ≠ 4 := fun z => c (.inr (.inr z))
    refine bA (by rw [yX h5]; exact decide_eq_false c) ?_
    rw [if_neg c, if_neg h4, List.append_nil, List.append_nil]
    exact ⟨_, rfl, rfl, _, rfl, bA (sF so 4 (by unfold pQ; rw [decide_eq_false h4]; rfl) h5) ⟨_, _, _, _, F, rfl, hF0, sm3, hF3⟩⟩
  ·rintro σ H' ⟨v4, v5, v6, v7, F, rfl, hF0, sm, hF'⟩
   rw [hxl, List.take_length] at hF'
   have h12 := g.hi
   refine ⟨_, rfl, la, rfl, ⟨_, SqL.of (sm _ _ hla)⟩, ?_⟩
   refine bV (xs := (as.map dotted).map V.str) (fun v => inV v ((mX a (rs i)).map V.str)) (Nat.le_trans (show ((as.map dotted).map V.str).length ≤ 12 by rw [List.length_map, List.length_map]; exact h12) (by decide)) (SqL.of (sm _ _ hla)) (fun x H7 Q' hx s7 k => ?_) (fun x H7 Q' hx s7 k => ?_) (fun H7 s7 c hc => ?_)
   ·obtain ⟨y, _, rfl⟩ := List.mem_map.mp hx
    exact ⟨_, rfl, _, rfl, F, _, rfl, .inl (SqL.of (s7 _ _ hF')), rfl, hfl _, _, rfl, k H7 (az.refl _)⟩
   ·exact ⟨_, rfl, k H7 (az.refl _)⟩
   rw [yR]
   refine ⟨c, _, rfl, SqL.of ao, Nat.lt_of_le_of_lt (List.length_filter_le _ _) (by rw [List.length_map]; omega), fun b zs h1 h2 hb => ?_⟩
   have s8 := (sm.trans s7).put (o := .lst (((as.map dotted).filter fun y => decide (y ∈ mX a (rs i))).map V.str)) hc
   exact q b _ zs (s8.free hb) (s8.put hb) h1 h2 ao
theorem tL (T : Tx K mg C) (F : Fun K "_law_behind" "_law_behind" gJ f fd) : aK P w K mg base CX0 3 f fd ou wy := by
 obtain ⟨f_law_links, fd_law_links, A_law_links⟩ := T.a_law_links
 have G_law_links : aK P w K mg base CX0 2 f_law_links fd_law_links nU rA := nZ T A_law_links.F
 refine F.oq dX fun _ _ _ _ H _ Q E hr h => ?_
 ·obtain ⟨H0, la, R, as, L, rs, rfl, hla, g, hd, hok, q⟩ := h
  have hr2 : aR 2 _ := hr
  refine ⟨_, QSs.h (au (aP (i := 2) dX.nd rfl (Or.inl rfl) jF)
   (au (aP (i := 3) dX.nd rfl (Or.inl rfl) jF)
   (au (cL PassesOwn.never rfl (bj (pv 0)) (aL (i := 4) dX.nd rfl (Or.inl rfl))
   (aB (QS.mk (iG (aR.u1 hr) (pv 3) (pv 4) (aV A_law_links G_law_links hr2 (ak (pv 4) (ak (pv 0) (ak (pv 1) aq)))) rfl))))
   (au (cL PassesOwn.never rfl (bj (pv 0)) (aL (i := 4) dX.nd rfl (Or.inl rfl))
   (au (aP (i := 5) dX.nd rfl (Or.inr rfl) (dJ cD (by rfl) T.t_list PyProof.Rows.boot_list (ak (cV (aR.u1 hr) (pv 3) (pv 4) (fun _ _ => rfl)) aq)))
   (au (aP (i := 6) dX.nd rfl (Or.inl rfl) aA)
   (au (QS.mk (qL PassesOwn.never (aM qX (pv 6) (aY aZ (by rfl) T.len PySem.boot_len (ak (pv 5) aq)) (aW _)) (QSs.h (au (aP (i := 5) dX.nd rfl (Or.inr rfl) (aU o7 (pv 5) (b7 (N := ["_law_one", "_law_found"]) [none, some 5] rfl (by kernel_rfl) (bj (cV (aR.u1 hr) (pv 3) (bC aX (pv 5) (pv 6) (fun _ _ => rfl)) (fun _ _ => rfl))) (fun cl C fp s H => (aL (i := 0) (by decide +kernel : (["_law_one", "_law_found"] : List Str).Nodup) rfl (Or.inl rfl))) (fun cl C fp s H => (jH (aM (pG (K := K) rfl) (pv 0) (pv 1) (by rfl)))) (fun cl C fp s H => (pv 0)))))
   (aB (aP (i := 6) dX.nd rfl (Or.inl rfl) (aU cY (pv 6) aA)))))))
   (aB (QS.mk (iG (aR.u1 hr) (pv 2) (pv 4) (pv 5) rfl)))))))
   (aB (aN (pv 2))))))), ?_⟩
  refine fun B hB => ?_
  have s1 : az H (upd H B (.dK [])) := az.new hB
  have hB1 : (upd H B (.dK [])) B = some (.dK []) := ao
  generalize upd H B (.dK []) = H1 at s1 hB1
  refine fun N hN => ?_
  have hN0 : H N = none := s1.free hN
  have hNB : N ≠ B := (aF hB1 hN).symm
  have s2 : az H (upd H1 N (.dK [])) := s1.put hN
  have hB2 : (upd H1 N (.dK [])) B = some (.dK []) := (az.new hN) _ _ hB1
  have hN2 : (upd H1 N (.dK [])) N = some (.dK []) := ao
  generalize upd H1 N (.dK []) = H2 at s2 hB2 hN2
  have h12 := g.hi
  have hzl : (as.map dotted).length ≤ 12 := by rw [List.length_map]; exact h12
  have at_ : ∀ {i : Nat} {v : V}, ((as.map dotted).map V.str)[i]? = some v → ∃ a, as[i]? = some a ∧ v = V.str (dotted a) := fun {i v} hx => by
   rw [List.getElem?_map, List.getElem?_map] at hx
   cases e : as[i]? with
   | none => rw [e] at hx; cases hx
   | some a => rw [e] at hx; cases hx; exact ⟨a, rfl, rfl⟩
  have new_ : ∀ {i : Nat} {a : List Str}, as[i]? = some a → dotted a ∉ (as.map dotted).take i := fun {i a} ha hm => by
   obtain ⟨j, hj, ej⟩ := List.getElem_of_mem hm
   have hji : j < i := Nat.lt_of_lt_of_le hj (List.length_take_le i _)
   have e2 : (as.map dotted)[j]? = some (dotted a) := by
    have := List.getElem?_eq_getElem hj
    rw [ej, List.getElem?_take] at this
    simpa [hji] using this
   have e1 : (as.map dotted)[i]? = some (dotted a) := by rw [List.getElem?_map, ha]; rfl
   have := (List.getElem?_inj (List.getElem?_eq_some_iff.mp e2).1 g.nd).mp (e2.trans e1.symm)
   omega
  have tk_ : ∀ {i : Nat} {a : List Str}, as[i]? = some a → (as.map dotted).take (i + 1) = (as.map dotted).take i ++ [dotted a] := fun {i a} ha => by
   rw [List.take_succ, List.getElem?_map, ha]; rfl
  refine ⟨_, rfl, la, rfl, ⟨_, SqL.of (s2 _ _ hla)⟩, ?_⟩
  refine cu (xs := (as.map dotted).map V.str) (fun i σ H' => ∃ v4, ∃ nb : Str → List Str, σ = [some (.ref la), some (.ref R), some (.ref B), some (.ref N), v4, none, none] ∧ az H H' ∧ H' B = some (.dK []) ∧ gk H' N ((as.map dotted).take i) nb ∧ ∀ (j : Nat) a, j < i → as[j]? = some a → (nb (dotted a)).Perm ((as.map dotted).filter fun y => decide (y ∈ mX a (rs j))) ∧ sortedS (nb (dotted a)) = true)
   ⟨none, (fun _ => []), rfl, s2, hB2, ⟨[], hN2, rfl, (fun z hz => by cases hz)⟩, (fun j a hj => absurd hj (Nat.not_lt_zero _))⟩ ?_ ?_ ?_
  ·rintro i σ H' _ ⟨v4, nb, rfl, sm, _⟩
   exact SqL.of (sm _ _ hla)
  ·rintro i v σ H' hv ⟨v4, nb, rfl, sm, hB', lk, hnb⟩
   obtain ⟨a, ha, rfl⟩ := at_ hv
   refine ⟨_, rfl, _, rfl, _, rfl, H0, la, R, as, L, rs, i, a, rfl, sm _ _ hla, g, hd.same sm, hok, ha, fun c H3 ys hc s3 hy1 hy2 hc3 => ?_⟩
   have hnew := new_ ha
   have e0 : (if dotted a = dotted a then ys else nb (dotted a)) = ys := if_pos rfl
   have lk3 : gk H3 N ((as.map dotted).take i) (fun z => if z = dotted a then ys else nb z) := (lk.same s3).but fun z hz => by
    show nb z = if z = dotted a then ys else nb z
    rw [if_neg (fun k : z = dotted a => hnew (k ▸ hz))]
   obtain ⟨kvs, hk1, hk2, lk4⟩ := lk3.more hnew (l := c) (by show H3 c = some (.lst ((if dotted a = dotted a then ys else nb (dotted a)).map V.str)); rw [e0]; exact hc3)
   have htl : ((as.map dotted).take i).length ≤ 12 := Nat.le_trans (List.length_take_le' _ _) hzl
   refine ⟨_, rfl, _, rfl, N, _, rfl, nJ.k (k := .inr (dotted a)) hk1 (Nat.lt_of_lt_of_le (show kvs.length < 1000 by omega) bZ), ?_⟩
   rw [tk_ ha]
   refine ⟨_, _, rfl, (sm.trans s3).over hN0, by rw [aG hNB.symm]; exact s3 _ _ hB', lk4, fun j b hj hb => ?_⟩
   by_cases e : dotted b = dotted a
   ·have hji : j = i := Classical.byContradiction fun k => Do g.nd hb ha k e
    subst hji
    rw [ha] at hb
    cases hb
    show (if dotted a = dotted a then ys else nb (dotted a)).Perm _ ∧ sortedS (if dotted a = dotted a then ys else nb (dotted a)) = true
    rw [e0]
    exact ⟨hy1, hy2⟩
   ·show (if dotted b = dotted a then ys else nb (dotted b)).Perm _ ∧ sortedS (if dotted b = dotted a then ys else nb (dotted b)) = true
    rw [if_neg e]
    refine hnb j b ?_ hb
    have : j ≠ i := fun z => by rw [z, ha] at hb; cases hb; exact e rfl
    omega
  ·rintro σ H3 ⟨v4, nb, rfl, sm3, hB3, lk, hnb⟩
   rw [List.length_map, List.take_length] at lk
   have hnbk : zZ as rs nb := fun i a ha => hnb i a (by rw [List.length_map, List.length_map]; exact (List.getElem?_eq_some_iff.mp ha).1) ha
   clear hnb
   have gr := hnbk.gr g
   have lkm := lk.without hB3 hNB
   have smm : az H (without H3 B) := az.without sm3 hB
   have hBm : (without H3 B) B = none := yf _ _
   have s3m : az (without H3 B) H3 := vI _ _
   generalize without H3 B = Hm at lkm smm hBm s3m
   refine ⟨_, rfl, la, rfl, ⟨_, SqL.of (sm3 _ _ hla)⟩, ?_⟩
   refine cu (xs := (as.map dotted).map V.str) (fun i σ H' => ∃ v4 v5 v6, ∃ bh : Str → List Str, σ = [some (.ref la), some (.ref R), some (.ref B), some (.ref N), v4, v5, v6] ∧ az Hm H' ∧ gk H' B ((as.map dotted).take i) bh ∧ Qf ((as.map dotted).take i) nb bh)
    ⟨_, _, _, (fun _ => []), rfl, s3m, ⟨[], hB3, rfl, (fun z hz => by cases hz)⟩, (fun z hz => by cases hz)⟩ ?_ ?_ ?_
   ·rintro i σ H' _ ⟨v4, v5, v6, bh, rfl, sm, _⟩
    exact SqL.of ((smm.trans sm) _ _ hla)
   ·rintro i v σ H' hv ⟨v4, v5, v6, bh, rfl, sm, lb, hbh⟩
    obtain ⟨a, ha, rfl⟩ := at_ hv
    have haz : dotted a ∈ as.map dotted := List.mem_map.mpr ⟨a, List.mem_of_getElem? ha, rfl⟩
    obtain ⟨ln, dgs, hln⟩ := lkm.gets haz
    refine ⟨_, rfl, _, rfl, N, _, rfl, dgs _ sm, ln, _, rfl, .inl (SqL.of (sm _ _ hln)), fun F hF => ?_⟩
    have s4 : az H' (upd H' F (.lst ((nb (dotted a)).map V.str))) := az.new hF
    have hF4 : (upd H' F (.lst ((nb (dotted a)).map V.str))) F = some (.lst ((nb (dotted a)).map V.str)) := ao
    have hF0 : Hm F = none := sm.free hF
    have lb4 := lb.same s4
    generalize upd H' F (.lst ((nb (dotted a)).map V.str)) = H4 at s4 hF4 lb4
    have sm4 := sm.trans s4
    refine ⟨fun m σ H' => Ke Hm la R B N (some (.str (dotted a))) (dotted a) (as.map dotted) nb m σ H' ∧ gk H' B ((as.map dotted).take i) bh, ⟨_, ⟨F, nb (dotted a), 0, rfl, sm4, hF0, hF4, gr.nn _ haz, fun x hx => .one hx, fun y hy => hy, Nat.zero_le _, (fun j x hj => absurd hj (Nat.not_lt_zero _)), rfl⟩, lb4⟩, ?_⟩
    clear hF4 hF0 lb4 sm4 s4 hF lb
    rintro m σ H5 ⟨⟨F, fs, k, rfl, sm5, hF0, hF5, hnd, hre, hnb, hkf, hcl, rfl⟩, lb5⟩
    have hfz : ∀ x ∈ fs, x ∈ as.map dotted := fun x hx => (hre x hx).mem gr haz
    have hfl : fs.length ≤ 12 := Nat.le_trans (jo hnd hfz) hzl
    refine ⟨_, rfl, _, rfl, F, _, rfl, .inl (SqL.of hF5), _, _, rfl, rfl, _, rfl, gh (fun hlt => ?_) (fun hge => ?_)⟩
    ·have hlt : k < fs.length := by rw [List.length_map] at hlt; omega
     refine ⟨fun σ' H'' => ∃ m', m' < 13 - k ∧ Ke Hm la R B N (some (.str (dotted a))) (dotted a) (as.map dotted) nb m' σ' H'' ∧ gk H'' B ((as.map dotted).take i) bh, fun _ _ z => z, ?_⟩
     have ek : fs[k]? = some fs[k] := List.getElem?_eq_getElem hlt
     have hxz := hfz _ (List.getElem_mem hlt)
     have hxr := hre _ (List.getElem_mem hlt)
     generalize fs[k] = x at ek hxz hxr
     have eat : atI (fs.map V.str) (k : Int) = some (V.str x) := bu (by rw [List.getElem?_map, ek]; rfl)
     obtain ⟨lx, dgx, hlx⟩ := lkm.gets hxz
     have hfl2 : ∀ zs : List Str, (zs.map V.str).all cN = true := dC
     have hnl := gr.len hxz
     refine ⟨_, rfl, _, rfl, _, rfl, _, rfl, F, _, _, _, rfl, rfl, SqL.of hF5, eat, N, _, rfl, dgx _ sm5, lx, rfl, ⟨_, SqL.of (sm5 _ _ hlx)⟩, bV (xs := (nb x).map V.str) (fun v => !inV v (fs.map V.str)) (Nat.le_trans (show ((nb x).map V.str).length ≤ 12 by rw [List.length_map]; exact hnl) (by decide)) (SqL.of (sm5 _ _ hlx)) (fun v H' Q' hv sv kk => ?_) (fun v H' Q' hv sv kk => ?_) (fun H6 s6 d hd => ?_)⟩
     ·obtain ⟨y, _, rfl⟩ := List.mem_map.mp hv
      exact ⟨_, rfl, _, rfl, F, _, rfl, .inl (SqL.of (sv _ _ hF5)), rfl, hfl2 _, _, rfl, kk H' (az.refl _)⟩
     ·exact ⟨_, rfl, kk H' (az.refl _)⟩
     have ef : ((nb x).map V.str).filter (fun v => !inV v (fs.map V.str)) = ((nb x).filter fun y => !decide (y ∈ fs)).map V.str := by
      rw [dB]
      congr 1
      exact List.filter_congr fun y _ => by rw [m5]
     rw [ef]
     have hml : ((nb x).filter fun y => !decide (y ∈ fs)).length ≤ 12 := Nat.le_trans (List.length_filter_le _ _) hnl
     have s7 : az H5 (upd H6 d (.lst (((nb x).filter fun y => !decide (y ∈ fs)).map V.str))) := s6.put hd
     have hd7 : (upd H6 d (.lst (((nb x).filter fun y => !decide (y ∈ fs)).map V.str))) d = some (.lst (((nb x).filter fun y => !decide (y ∈ fs)).map V.str)) := ao
     have hmem : ∀ y, y ∈ ((nb x).filter fun y => !decide (y ∈ fs)) ↔ y ∈ nb x ∧ y ∉ fs := fun y => by rw [List.mem_filter]; simp
     have hmn : ((nb x).filter fun y => !decide (y ∈ fs)).Nodup := (gr.nn x hxz).filter _
     generalize ((nb x).filter fun y => !decide (y ∈ fs)) = ms at s7 hd7 hmem hmn hml
     generalize upd H6 d (.lst (ms.map V.str)) = H7 at s7 hd7
     refine ⟨F, d, _, _, rfl, rfl, s7 _ _ hF5, hd7, Nat.le_trans (show (fs.map V.str).length + (ms.map V.str).length ≤ 30 by rw [List.length_map, List.length_map]; omega) (by decide), fun G hG => ?_⟩
     have s8 : az H5 (upd H7 G (.lst (fs.map V.str ++ ms.map V.str))) := s7.put hG
     have hG8 : (upd H7 G (.lst (fs.map V.str ++ ms.map V.str))) G = some (.lst ((fs ++ ms).map V.str)) := ao.trans (by rw [List.map_append])
     have hG0 : Hm G = none := (sm5.trans s7).free hG
     generalize upd H7 G (.lst (fs.map V.str ++ ms.map V.str)) = H8 at s8 hG8
     refine ⟨_, rfl, _, _, rfl, rfl, ?_⟩
     refine ⟨13 - (k + 1), by omega, ⟨G, fs ++ ms, k + 1, rfl, sm5.trans s8, hG0, hG8, ?_, fun y hy => ?_, fun y hy => List.mem_append_left _ (hnb y hy), by rw [List.length_append]; omega, fun j u hj eu y hy => ?_, rfl⟩, lb5.same s8⟩
     ·exact List.nodup_append.mpr ⟨hnd, hmn, fun u hu v hv e => ((hmem v).mp hv).2 (e ▸ hu)⟩
     ·rcases List.mem_append.mp hy with z | z
      ·exact hre y z
      ·exact .more hxr ((hmem y).mp z).1
     ·rw [List.getElem?_append_left (by omega)] at eu
      by_cases hjk : j = k
      ·subst hjk
       rw [ek] at eu
       cases eu
       by_cases hyf : y ∈ fs
       ·exact List.mem_append_left _ hyf
       ·exact List.mem_append_right _ ((hmem y).mpr ⟨hy, hyf⟩)
      ·exact List.mem_append_left _ (hcl j u (by omega) eu y hy)
    ·have hke : k = fs.length := by rw [List.length_map] at hge; omega
     have hnew := new_ ha
     have e0 : (if dotted a = dotted a then fs else bh (dotted a)) = fs := if_pos rfl
     have lk3 : gk H5 B ((as.map dotted).take i) (fun z => if z = dotted a then fs else bh z) := lb5.but fun z hz => by
      show bh z = if z = dotted a then fs else bh z
      rw [if_neg (fun k : z = dotted a => hnew (k ▸ hz))]
     obtain ⟨kvs, hk1, hk2, lk4⟩ := lk3.more hnew (l := F) (by show H5 F = some (.lst ((if dotted a = dotted a then fs else bh (dotted a)).map V.str)); rw [e0]; exact hF5)
     have htl : ((as.map dotted).take i).length ≤ 12 := Nat.le_trans (List.length_take_le' _ _) hzl
     refine ⟨_, rfl, _, rfl, _, rfl, B, _, rfl, nJ.k (k := .inr (dotted a)) hk1 (Nat.lt_of_lt_of_le (show kvs.length < 1000 by omega) bZ), ?_⟩
     rw [tk_ ha]
     refine ⟨_, _, _, _, rfl, sm5.over hBm, lk4, fun z hz => ?_⟩
     by_cases e : z = dotted a
     ·subst e
      show (if dotted a = dotted a then fs else bh (dotted a)).Nodup ∧ ∀ y, y ∈ (if dotted a = dotted a then fs else bh (dotted a)) ↔ _
      rw [e0]
      refine ⟨hnd, fun y => ⟨fun hy => hre y hy, fun hy => hy.in hnb fun u hu y hy => ?_⟩⟩
      obtain ⟨j, hj, ej⟩ := List.getElem_of_mem hu
      exact hcl j u (by omega) (by rw [List.getElem?_eq_getElem hj, ej]) y hy
     ·show (if z = dotted a then fs else bh z).Nodup ∧ ∀ y, y ∈ (if z = dotted a then fs else bh z) ↔ _
      rw [if_neg e]
      rcases List.mem_append.mp hz with k | k
      ·exact hbh z k
      ·exact absurd (List.mem_singleton.mp k) e
   ·rintro σ H' ⟨v4, v5, v6, bh, rfl, sm, lb, hbh⟩
    rw [List.length_map, List.take_length] at lb hbh
    exact ⟨_, rfl, q B H' nb bh hB (smm.trans sm) hnbk lb hbh⟩
theorem tG (T : Tx K mg C) (F : Fun K "_law_walked" "_law_walked" gK f fd) : aK P w K mg base CX0 3 f fd oO xm := by
 obtain ⟨f_law_links, fd_law_links, A_law_links⟩ := T.a_law_links
 have G_law_links : aK P w K mg base CX0 2 f_law_links fd_law_links nU rA := nZ T A_law_links.F
 refine F.oq xg fun _ _ _ _ H _ Q E hr h => ?_
 ·obtain ⟨H0, l, la, R, one, other, w, as, L, rs, nb, rfl, hl, wk, h1z, hla, g, hd, hok, hnb, q⟩ := h
  have hr2 : aR 2 _ := hr
  refine ⟨_, QSs.h (au (bz (PW.pt (t6 (kZ (gw (aY um (by rfl) T.inst PyProof.Rows.boot_isinstance (ak (pv 0) (ak (yP (v := .ty "list") (by rfl) T.t_list PyProof.Rows.boot_list rfl) aq))))) (t6 (aM qX (aY aZ (by rfl) T.len PySem.boot_len (ak (pv 0) aq)) aA (aW _)) (t6 (aM t7 (bC aX (pv 0) aA (fun _ _ => rfl)) (pv 1) (aW _)) (vJ (aM t7 (bC aX (pv 0) (rW ni aA) (fun _ _ => rfl)) (pv 2) (aW _))))))) (aB (aN gZ)) aQ)
   (au (cL PassesOwn.never rfl (pD (by rfl) T.range (ak aA (ak (aY aZ (by rfl) T.len PySem.boot_len (ak (pv 0) aq)) aq))) (aL (i := 5) xg.nd rfl (Or.inl rfl))
   (au (bz (aM gO (bC aX (pv 0) (pv 5) (fun _ _ => rfl)) (aV A_law_links G_law_links hr2 (ak (bC aX (pv 0) (aU yw (pv 5) aA) (fun _ _ => rfl)) (ak (pv 3) (ak (pv 4) aq)))) (by rfl)) (aB (aN gZ)) aQ)
   (aB (bz (PW.pt (t6 (aM jD (bC aX (pv 0) (pv 5) (fun _ _ => rfl)) (dm iD (pv 0) (cW aA) (cW (pv 5))) (by rfl)) (vJ (PW.pt (rD (aM dG (bC aX (pv 0) (pv 5) (fun _ _ => rfl)) (bC aX (pv 0) aA (fun _ _ => rfl)) (aW _)) (qD (aM qX (pv 5) (aU yw (aY aZ (by rfl) T.len PySem.boot_len (ak (pv 0) aq)) aA) (aW _)))))))) (aB (aN gZ)) aQ))))
   (aB (aN gZ)))), ?_⟩
  have gr := hnb.gr g
  have hlo := wk.lo
  have hhi := wk.hi
  have ml : (w.map V.str).length = w.length := List.length_map _
  have hfl : ∀ zs : List Str, (zs.map V.str).all cN = true := dC
  have wat : ∀ (k : Nat) x, w[k]? = some x → atI (w.map V.str) (k : Int) = some (V.str x) := fun k x e => bu (by rw [List.getElem?_map, e]; rfl)
  have e0 : atI (w.map V.str) 0 = some (V.str one) := wat 0 one wk.fst
  have eL : atI (w.map V.str) (-1) = some (V.str other) := by
   have hne : w ≠ [] := fun z => by rw [z] at hlo; exact absurd hlo (by decide)
   have hs : w = w.dropLast ++ [w.getLast hne] := (List.dropLast_concat_getLast hne).symm
   have e := wk.lst
   have e2 : w.getLast hne = other := by
    rw [List.getElem?_eq_getElem (by omega)] at e
    rw [List.getLast_eq_getElem]
    exact Option.some.inj e
   rw [hs, e2]
   exact qt
  refine ⟨_, rfl, _, _, _, _, rfl, .lst hl, xj, _, rfl, jy ⟨_, rfl, l, _, rfl, .inl (SqL.of hl), _, _, rfl, rfl, _, rfl, bA (decide_eq_false (by rw [ml]; omega)) ⟨_, rfl, l, _, _, _, rfl, rfl, SqL.of hl, e0, _, rfl, rfl, _, rfl, Gz rfl ⟨_, rfl, _, rfl, l, _, _, _, rfl, rfl, SqL.of hl, eL, _, rfl, rfl, _, rfl, Gz rfl ?_⟩⟩⟩⟩
  refine ⟨_, rfl, l, _, rfl, .inl (SqL.of hl), _, _, rfl, ⟨by decide, by decide, by omega, by rw [ml]; omega⟩, ?_⟩
  refine mj (fun i σ H' => ∃ v5, σ = [some (.ref l), some (.str one), some (.str other), some (.ref la), some (.ref R), v5] ∧ az H H') ⟨none, rfl, az.refl _⟩ ?_ ?_
  ·rintro i σ H1 hi ⟨v5, rfl, s1⟩
   have hi1 : i + 1 < w.length := by rw [ml] at hi; omega
   have ek : w[i + 1]? = some w[i + 1] := List.getElem?_eq_getElem hi1
   have ej : w[i]? = some w[i] := List.getElem?_eq_getElem (by omega)
   generalize w[i + 1] = y at ek
   generalize w[i] = x at ej
   have hst := wk.st i _ _ ej ek
   have hxz := wk.mem gr h1z i x ej
   obtain ⟨a, ha, rfl⟩ := List.mem_map.mp hxz
   obtain ⟨j, hj, ea⟩ := List.getElem_of_mem ha
   have eaj : as[j]? = some a := by rw [List.getElem?_eq_getElem hj, ea]
   have hl1 := s1 _ _ hl
   have ax : atI (w.map V.str) (1 + (i : Int)) = some (V.str y) := by rw [show (1 + (i : Int)) = ((i + 1 : Nat) : Int) by omega]; exact wat _ _ ek
   have aj : atI (w.map V.str) (1 + (i : Int) - 1) = some (V.str (dotted a)) := by rw [show 1 + (i : Int) - 1 = (i : Int) by omega]; exact wat _ _ ej
   refine ⟨_, rfl, _, rfl, l, _, _, _, rfl, rfl, SqL.of hl1, ax, _, rfl, _, rfl, _, _, rfl, rfl, l, _, _, _, rfl, rfl, SqL.of hl1, aj, _, rfl, _, rfl, H0, la, R, as, L, rs, j, a, rfl, s1 _ _ hla, g, hd.same s1, hok, eaj, fun b H2 ys hb s2 hy1 hy2 hb2 => ?_⟩
   have hys : y ∈ ys := (hy1.trans (hnb j a eaj).1.symm).mem_iff.mpr hst
   refine ⟨b, _, rfl, .inl (SqL.of hb2), rfl, hfl _, _, rfl, bA (by rw [m5, decide_eq_true hys]; rfl) ?_⟩
   have s12 := s1.trans s2
   have hl2 := s12 _ _ hl
   have hcut : fB (w.map V.str) (some 1) (some (1 + (i : Int))) = ((w.take (i + 1)).drop 1).map V.str := by
    rw [zx w (by decide) (by omega) (show (1 : Int).toNat ≤ w.length by show 1 ≤ w.length; omega) (by omega), List.drop_take]
    show ((w.drop 1).take ((1 + (i : Int)).toNat - 1)).map V.str = ((w.drop 1).take (i + 1 - 1)).map V.str
    rw [show (1 + (i : Int)).toNat - 1 = i + 1 - 1 from by omega]
   refine ⟨_, rfl, _, rfl, l, _, _, _, rfl, rfl, SqL.of hl2, ax, _, rfl, _, rfl, _, rfl, _, rfl, l, _, rfl, SqL.of hl2, fun c hc => ?_⟩
   rw [hcut]
   have s3 : az H (upd H2 c (.lst (((w.take (i + 1)).drop 1).map V.str))) := s12.put hc
   have hl3 := s3 _ _ hl
   refine ⟨c, _, rfl, .inl (SqL.of ao), rfl, hfl _, _, rfl, bA (by rw [m5, decide_eq_false (wk.nr (i + 1) y (by omega) ek)]; rfl) ?_⟩
   refine ⟨_, rfl, _, rfl, l, _, _, _, rfl, rfl, SqL.of hl3, ax, _, rfl, l, _, _, _, rfl, rfl, SqL.of hl3, e0, rfl, _, rfl, ?_⟩
   by_cases hyo : y = one
   ·subst hyo
    have hlast := wk.nf (i + 1) (by omega) ek
    refine gj (decide_eq_true rfl) ⟨_, rfl, _, rfl, l, _, rfl, .inl (SqL.of hl3), _, _, rfl, rfl, _, _, rfl, rfl, _, rfl, bA (decide_eq_false (by rw [ml]; omega)) ?_⟩
    exact ⟨_, rfl, s3⟩
   ·exact bA (decide_eq_false fun z => hyo (V.str.inj z)) (jy ⟨_, rfl, s3⟩)
  ·rintro σ H1 ⟨v5, rfl, s1⟩
   exact q H1 s1
theorem wN (T : Tx K mg C) (F : Fun K "_law_none" "_law_none" jR f fd) : aK P w K mg base CX0 8 f fd uU (zj C) := by
 obtain ⟨f_way_between, fd_way_between, A_way_between⟩ := T.a_way_between
 have G_way_between : aK P w K mg base (CX1 P w) 7 f_way_between fd_way_between dF (Bm C) := lH T A_way_between.F
 refine F.oq Dp fun _ _ _ _ H _ Q E hr h => ?_
 ·obtain ⟨h0, l, ps, one, other, due, rfl, hh, g, h1, h2, hc, q⟩ := h
  have hr7 : aR 7 _ := hr
  refine ⟨_, QSs.h (au (BV (i := 4) T.x_HouseError T.c_HouseError Dp.nd rfl rfl rfl rfl (fun pins E W hw => (aB (bU (lq A_way_between G_way_between hr7 hw (ak (pv 0) (ak (pv 1) (ak (pv 2) aq))))))) aQ (fun x pins => (aB (aN (Bx (aY (wW (K := K) rfl) (by rfl) T.inst PyProof.Rows.boot_isinstance (ak (pv 4) (ak (FJ T.c_NoPart) aq))) (Bk (iI dG (BJ (K := K) rfl (pv 4) rfl) (pv 3) (aW _))))))))
   (aB (aN gZ))), ?_⟩
  rcases hc with ⟨hno, rfl⟩ | ⟨hin, hno, rfl⟩
  ·refine ⟨_, rfl, _, rfl, _, rfl, h0, l, ps, due, other, rfl, hh, g, h1, h2, fun hin => absurd hin hno, fun _ x H' sm hn => ?_, fun hin => absurd hin hno⟩
   obtain ⟨p, e1, e2⟩ := hn
   refine ⟨x, C 21, some p, rfl, e1, T.xs, ?_⟩
   refine ⟨_, rfl, _, x, C 21, some p, _, _, _, rfl, rfl, e1, fun p' e => ⟨_, by cases e; exact e2⟩, T.xc, T.xk, _, rfl, De ?_⟩
   refine ⟨_, rfl, _, x, C 21, p, _, _, rfl, e1, e2, T.xc, T.xa, rfl, _, rfl, rfl, ?_⟩
   have q2 := q H' sm
   have e : decide (V.str due = V.str due) = true := decide_eq_true rfl
   rw [← e] at q2
   exact q2
  ·refine ⟨_, rfl, _, rfl, _, rfl, h0, l, ps, one, due, rfl, hh, g, h1, h2, fun _ hin2 => absurd hin2 hno, fun hno1 => absurd hin hno1, fun _ _ x H' sm hn => ?_⟩
   obtain ⟨p, e1, e2⟩ := hn
   refine ⟨x, C 21, some p, rfl, e1, T.xs, ?_⟩
   refine ⟨_, rfl, _, x, C 21, some p, _, _, _, rfl, rfl, e1, fun p' e => ⟨_, by cases e; exact e2⟩, T.xc, T.xk, _, rfl, De ?_⟩
   refine ⟨_, rfl, _, x, C 21, p, _, _, rfl, e1, e2, T.xc, T.xa, rfl, _, rfl, rfl, ?_⟩
   have q2 := q H' sm
   have e : decide (V.str due = V.str due) = true := decide_eq_true rfl
   rw [← e] at q2
   exact q2
theorem wZ (T : Tx K mg C) (F : Fun K "_law_long" "_law_long" kE f fd) : aK P w K mg base CX0 2 f fd uH (DQ K) := by
 obtain ⟨f_law_cell, fd_law_cell, A_law_cell⟩ := T.a_law_cell
 have G_law_cell : aK P w K mg base CX0 1 f_law_cell fd_law_cell pC (qy K) := uV A_law_cell.F T.len
 obtain ⟨f_law_pick, fd_law_pick, A_law_pick⟩ := T.a_law_pick
 have G_law_pick : aK P w K mg base CX0 1 f_law_pick fd_law_pick jt lK := km A_law_pick.F
 refine F.oq pB fun _ _ _ _ H _ Q E hr h => ?_
 ·obtain ⟨S, lw, ns, ws, rfl, hS, hlw, hw8, hwn, q⟩ := h
  have hr1 : aR 1 _ := hr
  refine ⟨_, QSs.h (au (aP (i := 2) pB.nd rfl (Or.inl rfl) (aV A_law_cell G_law_cell hr1 (ak (pv 0) (ak aA aq))))
   (au (jW (N := ["_law_one", "_law_words_here"]) [none, some 1] (i := 3) pB.nd rfl (Or.inl rfl) rfl (by kernel_rfl) (HS aJ) (fun cl C fp s H => (aL (i := 0) (by decide +kernel : (["_law_one", "_law_words_here"] : List Str).Nodup) rfl (Or.inl rfl))) (fun cl C fp s H => eN) (fun cl C fp s H => (aU bB (dm GZ (bC (Dm (K := K) rfl) (pv 1) aA (fun _ _ => rfl)) jf (cW aA)) (pv 0))))
   (au (aP (i := 4) pB.nd rfl (Or.inl rfl) (bC aX (bH (ak aA (ak aA (ak aA (ak aA aq))))) (aV A_law_pick G_law_pick hr1 (ak (pv 2) (ak aA (ak aA aq)))) (fun _ _ => rfl)))
   (au (aP (i := 5) pB.nd rfl (Or.inl rfl) jF)
   (au (cL PassesOwn.never rfl (gU (by rfl) T.range (ak aA aq)) (aL (i := 6) pB.nd rfl (Or.inl rfl))
   (aB (QS.mk (iG (aR.u1 hr) (pv 5) (bC aX (pv 3) (pv 6) (fun _ _ => rfl)) (bH (ak (iy (ak (bC aX (bH (ak aJ (ak aJ aq))) (aV A_law_pick G_law_pick hr1 (ak (pv 2) (ak (aU cY aA (pv 6)) (ak aA aq)))) (fun _ _ => rfl)) (ak aJ (ak (bC aX (pv 3) (aU jg (aU cY (pv 6) (pv 4)) aA) (fun _ _ => rfl)) (ak aJ aq))))) aq)) rfl))))
   (au (bz (aM dG (aV A_law_pick G_law_pick hr1 (ak (pv 2) (ak aA (ak aA aq)))) aA (aW _)) (aB (QS.mk (iG (aR.u1 hr) (pv 5) (bC aX (pv 3) (aV A_law_pick G_law_pick hr1 (ak (pv 2) (ak aA (ak aA aq)))) (fun _ _ => rfl)) (bH aq) rfl))) aQ)
   (aB (aN (iy (ak (pv 3) (ak (pv 5) aq))))))))))), ?_⟩
  have hw0 : 0 < ws.length := by omega
  have ew0 : ws[0]? = some ws[0] := List.getElem?_eq_getElem hw0
  have nw := hwn _ (List.getElem_mem hw0)
  generalize ws[0] = w0 at ew0 nw
  have e0 : atI (ws.map V.str) 0 = some (V.str w0) := bu (j := 0) (by rw [List.getElem?_map, ew0]; rfl)
  have hp1 : ∀ n ∈ (Txt.slice w0 none (some 7)).cps.toList, 97 ≤ n ∧ n ≤ 122 := fun n hn => nw.ok n (An hn)
  have hp2 := xQ nw.hi
  refine ⟨_, rfl, S, ns, 3, rfl, hS, by decide, fun H1 s1 => ?_⟩
  generalize pJ ns 3 = c
  refine ⟨_, rfl, CN (fun cc => V.str (Txt.slice w0 none (some 7) ++ (⟨#[cc]⟩ : Str))) (by decide +kernel) (fun cc H' Q' hc sm k => ?_) (fun H2 s2 la hla => ?_)⟩
  ·exact ⟨_, rfl, lw, _, _, _, rfl, rfl, SqL.of ((s1.trans sm) _ _ hlw), e0, _, rfl, w0, rfl, Nat.le_trans nw.hi (by decide), _, rfl, _, _, rfl, rfl, abS hp2 (Nat.le_refl 1), k H' (az.refl _)⟩
  rw [Ae]
  generalize Txt.slice w0 none (some 7) = p at hp1 hp2
  have g := Ao hp1 hp2
  have s3 : az H (upd H2 la (.lst (((bR p).map dotted).map V.str))) := (s1.trans s2).put hla
  have hla3 : (upd H2 la (.lst (((bR p).map dotted).map V.str))) la = some (.lst (((bR p).map dotted).map V.str)) := ao
  generalize upd H2 la (.lst (((bR p).map dotted).map V.str)) = H3 at s3 hla3
  have aat : ∀ {i : Nat}, i < 12 → atI (((bR p).map dotted).map V.str) (i : Int) = some (V.str (dotted [p ++ (⟨#[97 + i]⟩ : Str)])) := fun {i} hi => bu (by rw [List.getElem?_map, List.getElem?_map, nP p hi]; rfl)
  obtain ⟨st, hst0, hst⟩ := step_at c
  refine ⟨by show 4 ≤ sizeLine; decide, fun b hb => ⟨_, rfl, c, 0, 4, rfl, by decide, by decide, by decide, fun H4 s4 => ⟨b, _, _, _, rfl, rfl, SqL.of (s4 _ _ ao), hst, ?_⟩⟩⟩
  have s34 : az H3 H4 := (az.new hb).trans s4
  have hla4 := s34 _ _ hla3
  refine fun R hR => ?_
  have s5 : az H4 (upd H4 R (.dK [])) := az.new hR
  have hR5 : (upd H4 R (.dK [])) R = some (.dK []) := ao
  generalize upd H4 R (.dK []) = H5 at s5 hR5
  have hal : (bR p).length = 12 := wG p
  refine ⟨_, rfl, by decide, by decide, ?_⟩
  refine mj (fun i σ H' => ∃ v6 L, ∃ rs : Nat → List Q4, σ = [some (.ref S), some (.ref lw), some (.int c), some (.ref la), some (.int st), some (.ref R), v6] ∧ az H4 H' ∧ DictAt H4 H' R (bR p) i L rs ∧ di (bR p) rs)
   ⟨none, (fun _ => 0), (fun _ => []), rfl, s5, ⟨hR, (fun i hi => absurd hi (Nat.not_lt_zero _)), ⟨[], hR5, Nat.le_refl _, (fun i a hi => absurd hi (Nat.not_lt_zero _))⟩, (fun i hi => absurd hi (Nat.not_lt_zero _)), (fun i j hi => absurd hi (Nat.not_lt_zero _))⟩, ⟨(fun i _ => Nat.zero_le _), (fun i _ d hd => by cases hd), (fun i a _ d hd => by cases hd)⟩⟩ ?_ ?_
  ·rintro i σ H6 hi ⟨v6, L, rs, rfl, sm, hd, hok⟩
   have hi : i < 12 := hi
   obtain ⟨so, hso, eso⟩ := CP c (1 + (0 + (i : Int)))
   have m1 : 0 ≤ (0 + (i : Int) + st) % 12 := Int.emod_nonneg _ (by decide)
   have m2 : (0 + (i : Int) + st) % 12 < 12 := Int.emod_lt_of_pos _ (by decide)
   have hj : ((0 + (i : Int) + st) % 12).toNat < 12 := by omega
   have ej := aat hj
   rw [show ((((0 + (i : Int) + st) % 12).toNat : Nat) : Int) = (0 + (i : Int) + st) % 12 from by omega] at ej
   have ei := aat hi
   rw [show ((i : Nat) : Int) = 0 + (i : Int) from by omega] at ei
   generalize ((0 + (i : Int) + st) % 12).toNat = j at hj ej
   refine ⟨by show 2 ≤ sizeLine; decide, fun b2 hb2 => ⟨_, rfl, _, rfl, _, _, rfl, rfl, c, 1 + (0 + (i : Int)), 2, rfl, by omega, by omega, by decide, fun H7 s7 => ⟨b2, _, _, _, rfl, rfl, SqL.of (s7 _ _ ao), eso, ?_⟩⟩⟩
   have s67 : az H6 H7 := (az.new hb2).trans s7
   refine ⟨_, rfl, _, rfl, _, rfl, _, _, rfl, rfl, _, _, rfl, rfl, by show (0 : Int) < 12; decide, la, _, _, _, rfl, rfl, SqL.of ((sm.trans s67) _ _ hla4), ej, by show 4 ≤ sizeLine; decide, fun tp htp => ⟨by show 1 ≤ sizeLine; decide, fun bl hbl => ?_⟩⟩
   have s69 : az H6 (upd (upd H7 tp (.tup [V.str (eE so), V.str "x", V.str (dotted [p ++ (⟨#[97 + j]⟩ : Str)]), V.str "y"])) bl (.lst [V.ref tp])) := (s67.put htp).put hbl
   have htb : gA (upd (upd H7 tp (.tup [V.str (eE so), V.str "x", V.str (dotted [p ++ (⟨#[97 + j]⟩ : Str)]), V.str "y"])) bl (.lst [V.ref tp])) bl [⟨so, "x", dotted [p ++ (⟨#[97 + j]⟩ : Str)], "y"⟩] := ⟨_, ao, rfl, fun k d e => by
    match k, e with
    | 0, e => cases e; exact ⟨tp, rfl, (az.new hbl) _ _ ao⟩
    | n + 1, e => simp at e⟩
   have hb6 : H6 bl = none := (s67.put htp).free hbl
   generalize upd (upd H7 tp (.tup [V.str (eE so), V.str "x", V.str (dotted [p ++ (⟨#[97 + j]⟩ : Str)]), V.str "y"])) bl (.lst [V.ref tp]) = H9 at s69 htb
   have hd9 := hd.same s69
   obtain ⟨kvs, hk9, _⟩ := hd9.dk
   obtain ⟨hkl, hd10⟩ := hd9.put g.nd (sm.free hb6) (fun k hk => by obtain ⟨xs, hx, _⟩ := hd.ts k hk; exact aF hx hb6) htb (nP p hi) (.inl ⟨rfl, rfl⟩) kvs hk9
   refine ⟨_, rfl, _, rfl, _, rfl, la, _, _, _, rfl, rfl, SqL.of ((sm.trans s69) _ _ hla4), ei, R, _, rfl, nJ.k (k := .inr (dotted [p ++ (⟨#[97 + i]⟩ : Str)])) hk9 (Nat.lt_of_lt_of_le (show kvs.length < 1000 by omega) bZ), ?_⟩
   refine ⟨_, _, _, rfl, (sm.trans s69).over hR, hd10, hok.set (nP p hi) (by show 1 ≤ 12; decide) (fun d hd => ?_) (fun d hd _ => Fe hp1 hp2 _ _)⟩
   rw [List.mem_singleton.mp hd]
   show G4 so "x" (dotted [p ++ (⟨#[97 + j]⟩ : Str)]) "y"
   exact ⟨by omega, fun _ => qI (by decide +kernel), fun z => by omega, .inr ⟨_, zb (vK hp1 hp2 hj), rfl, qI (by decide +kernel)⟩⟩
  ·rintro σ H6 ⟨v6, L, rs, rfl, sm, hd, hok⟩
   have hd : DictAt H4 H6 R (bR p) (bR p).length L rs := by rw [hal]; exact hd
   refine ⟨_, rfl, c, 20, 2, rfl, by decide, by decide, by decide, fun H7 s7 => ⟨rfl, _, rfl, gh (fun _ => ?_) (fun _ => ?_)⟩⟩
   ·have k1 := d9 c 21 (m := 12) (by decide)
    have k2 := fP c 21 (m := 12) (by decide)
    refine ⟨by show 0 ≤ sizeLine; decide, fun b2 hb2 => ⟨_, rfl, _, rfl, _, rfl, c, 21, 12, rfl, by decide, by decide, by decide, fun H9 s9 => ?_⟩⟩
    generalize pick c 21 12 = kk at k1 k2
    have hj : kk.toNat < 12 := by omega
    have ej := aat hj
    rw [show ((kk.toNat : Nat) : Int) = kk from by omega] at ej
    have s79 : az H7 H9 := (az.new hb2).trans s9
    have hb9 : H9 b2 = some (.lst []) := s9 _ _ ao
    have hb6 : H6 b2 = none := s7.free hb2
    have s69 := s7.trans s79
    have hd9 := hd.same s69
    obtain ⟨kvs, hk9, _⟩ := hd9.dk
    have hjl : kk.toNat < (bR p).length := by rw [hal]; exact hj
    obtain ⟨hkl, hd10⟩ := hd9.put (ds := []) g.nd (sm.free hb6) (fun k hk => by obtain ⟨xs, hx, _⟩ := hd.ts k hk; exact aF hx hb6) ⟨[], hb9, rfl, fun k d e => by simp at e⟩ (nP p hj) (.inr ⟨hjl, rfl⟩) kvs hk9
    refine ⟨la, _, _, _, rfl, rfl, SqL.of ((sm.trans s69) _ _ hla4), ej, R, _, rfl, nJ.k (k := .inr (dotted [p ++ (⟨#[97 + kk.toNat]⟩ : Str)])) hk9 (Nat.lt_of_lt_of_le (show kvs.length < 1000 by omega) bZ), ?_⟩
    have s10 : az H4 (upd H9 R (.dK (putK kvs (.inr (dotted [p ++ (⟨#[97 + kk.toNat]⟩ : Str)])) (.ref b2)))) := (sm.trans s69).over hR
    have hok2 := hok.set (ds := []) (nP p hj) (Nat.zero_le _) (fun d hd => by cases hd) (fun d hd => by cases hd)
    generalize upd H9 R (.dK (putK kvs (.inr (dotted [p ++ (⟨#[97 + kk.toNat]⟩ : Str)])) (.ref b2))) = H10 at s10 hd10
    refine ⟨_, rfl, _, rfl, by show 2 ≤ sizeLine; decide, fun t ht => ?_⟩
    exact q t la R (bR p) _ _ H4 _ ao ((s3.trans (s34.trans s10)).put ht) ((s10.put ht) _ _ hla4) (by intro z; rw [z] at hal; cases hal) g (hd10.same (az.new ht)) hok2
   ·refine ⟨_, rfl, _, rfl, by show 2 ≤ sizeLine; decide, fun t ht => ?_⟩
    have s47 := sm.trans s7
    exact q t la R (bR p) L rs H4 _ ao ((s3.trans (s34.trans s47)).put ht) ((s47.put ht) _ _ hla4) (by intro z; rw [z] at hal; cases hal) g ((hd.same s7).same (az.new ht)) hok
theorem vy (T : Tx K mg C) (F : Fun K "_law_right" "_law_right" iM f fd) : aK P w K mg base CX0 8 f fd qG (zF C) := by
 obtain ⟨f_law_behind, fd_law_behind, A_law_behind⟩ := T.a_law_behind
 have G_law_behind : aK P w K mg base CX0 3 f_law_behind fd_law_behind ou wy := tL T A_law_behind.F
 obtain ⟨f_leads, fd_leads, A_leads⟩ := T.a_leads
 have G_leads : aK P w K mg base (CX1 P w) 7 f_leads fd_leads nM (zA C) := DK T A_leads.F
 obtain ⟨f_way_between, fd_way_between, A_way_between⟩ := T.a_way_between
 have G_way_between : aK P w K mg base (CX1 P w) 7 f_way_between fd_way_between dF (Bm C) := lH T A_way_between.F
 obtain ⟨f_law_walked, fd_law_walked, A_law_walked⟩ := T.a_law_walked
 have G_law_walked : aK P w K mg base CX0 3 f_law_walked fd_law_walked oO xm := tG T A_law_walked.F
 refine F.oq jV fun _ _ _ _ H _ Q E hr h => ?_
 ·obtain ⟨H0, h0, l, la, R, ps, as, L, rs, rfl, hh, hk, ead, hof, hne, hla, g, hd, hok, q⟩ := h
  have hr3 : aR 3 _ := hr.mono (by decide)
  have hr7 : aR 7 _ := hr
  refine ⟨_, QSs.h (au (aP (i := 3) jV.nd rfl (Or.inl rfl) (aV A_law_behind G_law_behind hr3 (ak (pv 1) (ak (pv 2) aq))))
   (au (cL PassesOwn.never rfl (bj (pv 1)) (aL (i := 4) jV.nd rfl (Or.inl rfl))
   (au (aP (i := 5) jV.nd rfl (Or.inl rfl) (lq A_leads G_leads hr7 nD (ak (pv 0) (ak (pv 4) aq))))
   (au (bz (PW.pt (t6 (kZ (gw (aY um (by rfl) T.inst PyProof.Rows.boot_isinstance (ak (pv 5) (ak (yP (v := .ty "list") (by rfl) T.t_list PyProof.Rows.boot_list rfl) aq))))) (vJ (aM (Ja (K := K) rfl hr.units) (pv 5) (aY gB (by rfl) T.sorted PyProof.Rows.boot_sorted (ak (cV (aR.u1 hr) (pv 3) (pv 4) (fun _ _ => rfl)) aq)) (aW _))))) (aB (aN gZ)) aQ)
   (au (bU (dD PySem.F.plainAttrs_list PySem.F.slot_list_append PySem.F.type_list_append fG (pv 5) (ak aJ aq)))
   (aB (cL PassesOwn.never rfl (bj (pv 1)) (aL (i := 6) jV.nd rfl (Or.inl rfl))
   (au (aP (i := 7) jV.nd rfl (Or.inl rfl) (lq A_way_between G_way_between hr7 nD (ak (pv 0) (ak (pv 4) (ak (pv 6) aq)))))
   (au (bz (aM dG (iI HB (pv 7) uO (aW _)) (iI jD (pv 6) (cV (aR.u1 hr) (pv 3) (pv 4) (fun _ _ => rfl)) (by rfl)) (aW _)) (aB (aN gZ)) aQ)
   (au (bz (PW.pt (rD (aM zf (pv 7) uO (aW _)) (qD (kZ (gw (aV A_law_walked G_law_walked hr3 (ak (pv 7) (ak (pv 4) (ak (pv 6) (ak (pv 1) (ak (pv 2) aq))))))))))) (aB (aN gZ)) aQ)
   (aB (bz (aM zf (pv 7) uO (aW _)) (aB (bU (dD PySem.F.plainAttrs_list PySem.F.slot_list_append PySem.F.type_list_append fG (pv 7) (ak aJ aq)))) aQ)))))))))))
   (au (cL PassesOwn.never rfl (bj (dm iD (cV (aR.u1 hr) (pv 3) (bC aX (pv 1) aA (fun _ _ => rfl)) (fun _ _ => rfl)) jf (cW aA))) (aL (i := 4) jV.nd rfl (Or.inl rfl))
   (aB (bz (kZ (gw (aV A_law_walked G_law_walked hr3 (ak (lq A_way_between G_way_between hr7 nD (ak (pv 0) (ak (bC aX (pv 1) aA (fun _ _ => rfl)) (ak (pv 4) aq)))) (ak (bC aX (pv 1) aA (fun _ _ => rfl)) (ak (pv 4) (ak (pv 1) (ak (pv 2) aq)))))))) (aB (aN gZ)) aQ)))
   (aB (aN (iI (Hy (K := K) rfl hr.units) (lq A_leads G_leads hr7 nD (ak (pv 0) (ak (bC aX (pv 1) aA (fun _ _ => rfl)) aq))) (aY gB (by rfl) T.sorted PyProof.Rows.boot_sorted (ak (cV (aR.u1 hr) (pv 3) (bC aX (pv 1) aA (fun _ _ => rfl)) (fun _ _ => rfl)) aq)) (aW _))))))), ?_⟩
  refine ⟨_, rfl, _, rfl, H0, la, R, as, L, rs, rfl, hla, g, hd, hok, fun B H1 nb bh hB s1 hnb lb hbh => ?_⟩
  have gr := hnb.gr g
  have hzl : (as.map dotted).length ≤ 12 := gr.hi
  have hfl : ∀ zs : List Str, (zs.map V.str).all cN = true := dC
  have hbl : ∀ {z : Str}, z ∈ as.map dotted → (bh z).length ≤ 12 := fun {z} hz => Nat.le_trans (jo (hbh z hz).1 fun y hy => (((hbh z hz).2 y).mp hy).mem gr hz) hzl
  have at_ : ∀ {i : Nat} {v : V}, ((as.map dotted).map V.str)[i]? = some v → ∃ z, z ∈ as.map dotted ∧ v = V.str z := fun {i v} hx => by
   obtain ⟨z, hz, rfl⟩ := List.mem_map.mp (List.mem_of_getElem? hx)
   exact ⟨z, hz, rfl⟩
  have zlen : ∀ {z : Str}, z ∈ as.map dotted → z.length ≤ 1000 := fun {z} hz => by
   obtain ⟨a, ha, rfl⟩ := List.mem_map.mp hz
   exact Nat.le_trans (g.ok a ha).len (by decide)
  have inS : ∀ {z : Str}, z ∈ as.map dotted → z ∈ adS ps := fun {z} hz => by rw [ead]; exact hz
  have same_ : ∀ {z : Str} {zs ys ys2 : List Str}, z ∈ as.map dotted → zs.Perm (adS ps) → sortedS zs = true → ys.Nodup → sortedS ys = true → (∀ y, y ∈ ys ↔ Rch (lN ps zs) z y) → ys2.Perm (bh z) → sortedS ys2 = true → ys = ys2 := fun {z zs ys ys2} hz hz1 hz2 h1 h2 h3 h4 h5 => by
   have en := xx g hnb hk ead hof hz1 hz2
   have gz : Gr (as.map dotted) (lN ps zs) := ⟨gr.hi, gr.nd, fun u hu y hy => gr.cl u hu y (en u hu ▸ hy), fun u hu => by rw [en u hu]; exact gr.nn u hu⟩
   refine qW (((List.perm_ext_iff_of_nodup h1 (hbh z hz).1).mpr fun y => ?_).trans h4.symm) h2 h5
   rw [h3 y, (hbh z hz).2 y]
   exact ⟨fun k => k.of_eq gz hz en, fun k => k.of_eq gr hz fun u hu => (en u hu).symm⟩
  refine ⟨_, rfl, la, rfl, ⟨_, SqL.of (s1 _ _ hla)⟩, ?_⟩
  refine cu (xs := (as.map dotted).map V.str) (fun i σ H' => ∃ v4 v5 v6 v7, σ = [some (.ref h0), some (.ref la), some (.ref R), some (.ref B), v4, v5, v6, v7] ∧ az H1 H') ⟨none, none, none, none, rfl, az.refl _⟩ ?_ ?_ ?_
  ·rintro i σ H' _ ⟨v4, v5, v6, v7, rfl, sm⟩
   exact SqL.of ((s1.trans sm) _ _ hla)
  ·rintro i v σ H2 hv ⟨v4, v5, v6, v7, rfl, sm⟩
   obtain ⟨z, hz, rfl⟩ := at_ hv
   obtain ⟨lz, dgz, hlz⟩ := lb.gets hz
   refine ⟨_, rfl, _, rfl, h0, l, ps, z, rfl, hh.same (s1.trans sm), hk, zlen hz, fun _ bf H3 zs ys hz1 hz2 hbf s3 hnd hso hmem hf => ?_, fun hno => absurd (inS hz) hno⟩
   have sm3 := sm.trans s3
   refine ⟨_, rfl, _, _, _, _, rfl, .lst hf, xj, _, rfl, jy ⟨_, rfl, _, rfl, _, rfl, B, _, rfl, dgz _ sm3, lz, bh z, rfl, SqL.of (sm3 _ _ hlz), by have := hbl hz; omega, fun c ys2 h1 h2 hc => ?_⟩⟩
   obtain rfl := same_ hz hz1 hz2 hnd hso hmem h1 h2
   have sm4 := sm3.put (o := .lst (ys.map V.str)) hc
   have hf4 := (az.new (o := .lst (ys.map V.str)) hc) _ _ hf
   refine ⟨bf, c, rfl, rfl, wj hf4 ao (tW ys), _, rfl, jy ?_⟩
   have hyl : ys.length ≤ 12 := by rw [h1.length_eq]; exact hbl hz
   have hf1 : H1 bf = none := sm.free hbf
   refine ⟨_, rfl, .inl ⟨rfl, _, SqL.of hf4⟩, bf, _, _, rfl, rfl, hf4, Nat.lt_of_lt_of_le (show (ys.map V.str).length < 1000 by rw [List.length_map]; omega) bZ, ?_⟩
   have sm5 := sm4.over (o := .lst (ys.map V.str ++ [V.str "a"])) hf1
   generalize upd (upd H3 c (.lst (ys.map V.str))) bf (.lst (ys.map V.str ++ [V.str "a"])) = H5 at sm5
   clear sm4 hf4 hf hmem hnd hso
   refine ⟨_, rfl, la, rfl, ⟨_, SqL.of ((s1.trans sm5) _ _ hla)⟩, ?_⟩
   refine cu (xs := (as.map dotted).map V.str) (fun i σ H' => ∃ v6 v7, σ = [some (.ref h0), some (.ref la), some (.ref R), some (.ref B), some (.str z), some (.ref bf), v6, v7] ∧ az H1 H') ⟨_, _, rfl, sm5⟩ ?_ ?_ ?_
   ·rintro i σ H' _ ⟨v6, v7, rfl, sm⟩
    exact SqL.of ((s1.trans sm) _ _ hla)
   ·clear sm5 sm3 sm s3 hbf hc
    rintro i v σ H6 hv ⟨v6, v7, rfl, sm⟩
    obtain ⟨y, hy, rfl⟩ := at_ hv
    refine ⟨_, rfl, _, rfl, _, rfl, h0, l, ps, z, y, rfl, hh.same (s1.trans sm), hk, zlen hz, zlen hy, fun _ _ H7 zs hz1 hz2 s7 => ⟨fun hnr => ?_, fun lt w hlt wk hlt7 => ?_⟩, fun hno => absurd (inS hz) hno, fun _ hno => absurd (inS hy) hno⟩
    ·have en := xx g hnb hk ead hof hz1 hz2
     have hny : y ∉ bh z := fun k => hnr ((((hbh z hz).2 y).mp k).of_eq gr hz fun u hu => (en u hu).symm)
     have sm7 := sm.trans s7
     refine ⟨_, rfl, rfl, _, rfl, _, rfl, _, rfl, B, _, rfl, dgz _ sm7, lz, _, rfl, .inl (SqL.of (sm7 _ _ hlz)), rfl, hfl _, rfl, _, rfl, bA (by rw [m5, decide_eq_false hny]; rfl) ?_⟩
     refine ⟨_, rfl, rfl, _, rfl, jy (jy ⟨_, rfl, rfl, _, rfl, jy ?_⟩)⟩
     exact ⟨_, _, rfl, sm7⟩
    ·have en := xx g hnb hk ead hof hz1 hz2
     have gz : Gr (as.map dotted) (lN ps zs) := ⟨gr.hi, gr.nd, fun u hu y hy => gr.cl u hu y (en u hu ▸ hy), fun u hu => by rw [en u hu]; exact gr.nn u hu⟩
     have wk2 := wk.of_eq gz hz en
     have hyb : y ∈ bh z := ((hbh z hz).2 y).mpr wk2.rch
     have sm7 := sm.trans s7
     refine ⟨_, rfl, rfl, _, rfl, _, rfl, _, rfl, B, _, rfl, dgz _ sm7, lz, _, rfl, .inl (SqL.of (sm7 _ _ hlz)), rfl, hfl _, rfl, _, rfl, bA (by rw [m5, decide_eq_true hyb]; rfl) ?_⟩
     refine ⟨_, rfl, rfl, _, rfl, De ⟨_, rfl, _, rfl, _, rfl, _, rfl, _, rfl, H0, lt, la, R, z, y, w, as, L, rs, nb, rfl, hlt7, wk2, hz, (s1.trans sm7) _ _ hla, g, hd.same (s1.trans sm7), hok, hnb, fun H8 s8 => ⟨_, rfl, jy ?_⟩⟩⟩
     have hlt8 := s8 _ _ hlt7
     have hw := wk.hi
     refine ⟨_, rfl, rfl, _, rfl, De ⟨_, rfl, .inl ⟨rfl, _, SqL.of hlt8⟩, lt, _, _, rfl, rfl, hlt8, Nat.lt_of_lt_of_le (show (w.map V.str).length < 1000 by rw [List.length_map]; omega) bZ, ?_⟩⟩
     exact ⟨_, _, rfl, (sm7.trans s8).over (sm.free hlt)⟩
   ·rintro σ H' ⟨v6, v7, rfl, sm⟩
    exact ⟨_, _, _, _, rfl, sm⟩
  ·rintro σ H2 ⟨v4, v5, v6, v7, rfl, sm⟩
   have h0l : 0 < as.length := List.length_pos_iff.mpr hne
   have ea0 : as[0]? = some as[0] := List.getElem?_eq_getElem h0l
   have hz : dotted as[0] ∈ as.map dotted := List.mem_map.mpr ⟨_, List.getElem_mem h0l, rfl⟩
   have e0 : atI ((as.map dotted).map V.str) 0 = some (V.str (dotted as[0])) := bu (j := 0) (by rw [List.getElem?_map, List.getElem?_map, ea0]; rfl)
   generalize dotted as[0] = z at hz e0
   obtain ⟨lz, dgz, hlz⟩ := lb.gets hz
   refine ⟨_, rfl, _, rfl, la, _, _, _, rfl, rfl, SqL.of ((s1.trans sm) _ _ hla), e0, B, _, rfl, dgz _ sm, _, rfl, lz, _, rfl, SqL.of (sm _ _ hlz), fun c hc => ?_⟩
   have ec : fB ((bh z).map V.str) none (some 2) = ((bh z).take 2).map V.str := jA _ (by decide)
   rw [ec]
   have sm3 := sm.put (o := .lst (((bh z).take 2).map V.str)) hc
   have hc3 : (upd H2 c (.lst (((bh z).take 2).map V.str))) c = some (.lst (((bh z).take 2).map V.str)) := ao
   have hc1 : H1 c = none := sm.free hc
   generalize upd H2 c (.lst (((bh z).take 2).map V.str)) = H3 at sm3 hc3
   refine ⟨c, rfl, ⟨_, SqL.of hc3⟩, ?_⟩
   refine cu (xs := ((bh z).take 2).map V.str) (fun i σ H' => ∃ v4 v5 v6 v7, σ = [some (.ref h0), some (.ref la), some (.ref R), some (.ref B), v4, v5, v6, v7] ∧ az H3 H') ⟨_, _, _, _, rfl, az.refl _⟩ ?_ ?_ ?_
   ·rintro i σ H' _ ⟨v4, v5, v6, v7, rfl, s4⟩
    exact SqL.of (s4 _ _ hc3)
   ·rintro i v σ H4 hv ⟨v4, v5, v6, v7, rfl, s4⟩
    obtain ⟨y, hy, rfl⟩ := List.mem_map.mp (List.mem_of_getElem? hv)
    have hyb : y ∈ bh z := List.mem_of_mem_take hy
    have hyr := ((hbh z hz).2 y).mp hyb
    have hyz : y ∈ as.map dotted := hyr.mem gr hz
    have sm4 := sm3.trans s4
    have hla4 := (s1.trans sm4) _ _ hla
    refine ⟨_, rfl, _, rfl, la, _, _, _, rfl, rfl, SqL.of hla4, e0, _, rfl, h0, l, ps, z, y, rfl, hh.same (s1.trans sm4), hk, zlen hz, zlen hyz, fun _ _ H7 zs hz1 hz2 s7 => ⟨fun hnr => ?_, fun lt w hlt wk hlt7 => ?_⟩, fun hno => absurd (inS hz) hno, fun _ hno => absurd (inS hyz) hno⟩
    ·have en := xx g hnb hk ead hof hz1 hz2
     exact absurd (hyr.of_eq gr hz fun u hu => (en u hu).symm) hnr
    ·have en := xx g hnb hk ead hof hz1 hz2
     have gz : Gr (as.map dotted) (lN ps zs) := ⟨gr.hi, gr.nd, fun u hu y hy => gr.cl u hu y (en u hu ▸ hy), fun u hu => by rw [en u hu]; exact gr.nn u hu⟩
     have wk2 := wk.of_eq gz hz en
     have sm7 := sm4.trans s7
     refine ⟨_, rfl, la, _, _, _, rfl, rfl, SqL.of ((s1.trans sm7) _ _ hla), e0, _, rfl, _, rfl, _, rfl, H0, lt, la, R, z, y, w, as, L, rs, nb, rfl, hlt7, wk2, hz, (s1.trans sm7) _ _ hla, g, hd.same (s1.trans sm7), hok, hnb, fun H8 s8 => ⟨_, rfl, jy ?_⟩⟩
     exact ⟨_, _, _, _, rfl, s4.trans (s7.trans s8)⟩
   ·rintro σ H4 ⟨v4, v5, v6, v7, rfl, s4⟩
    have sm4 := sm3.trans s4
    refine ⟨_, rfl, _, rfl, la, _, _, _, rfl, rfl, SqL.of ((s1.trans sm4) _ _ hla), e0, h0, l, ps, z, rfl, hh.same (s1.trans sm4), hk, zlen hz, fun _ bf H5 zs ys hz1 hz2 hbf s5 hnd hso hmem hf => ?_, fun hno => absurd (inS hz) hno⟩
    have sm5 := sm4.trans s5
    refine ⟨_, rfl, _, rfl, la, _, _, _, rfl, rfl, SqL.of ((s1.trans sm5) _ _ hla), e0, B, _, rfl, dgz _ sm5, lz, bh z, rfl, SqL.of (sm5 _ _ hlz), by have := hbl hz; omega, fun c2 ys2 h1 h2 hc2 => ?_⟩
    obtain rfl := same_ hz hz1 hz2 hnd hso hmem h1 h2
    exact ⟨bf, c2, rfl, rfl, wj ((az.new hc2) _ _ hf) ao (tW ys), q _ ((s1.trans sm5).put hc2)⟩
theorem HQ (T : Tx K mg C) (F : Fun K "law" "law" BX f fd) : aK P w K mg base CX0 9 f fd Gm (zK K) := by
 obtain ⟨f_law_made, fd_law_made, A_law_made⟩ := T.a_law_made
 have G_law_made : aK P w K mg base CX0 5 f_law_made fd_law_made u5 (wO K) := wX T A_law_made.F
 obtain ⟨f_law_long, fd_law_long, A_law_long⟩ := T.a_law_long
 have G_law_long : aK P w K mg base CX0 2 f_law_long fd_law_long uH (DQ K) := wZ T A_law_long.F
 obtain ⟨f_law_right, fd_law_right, A_law_right⟩ := T.a_law_right
 have G_law_right : aK P w K mg base CX0 8 f_law_right fd_law_right qG (zF C) := vy T A_law_right.F
 obtain ⟨f_law_parts, fd_law_parts, A_law_parts⟩ := T.a_law_parts
 have G_law_parts : aK P w K mg base CX0 4 f_law_parts fd_law_parts qj (zz C) := uR T A_law_parts.F
 obtain ⟨f_law_none, fd_law_none, A_law_none⟩ := T.a_law_none
 have G_law_none : aK P w K mg base CX0 8 f_law_none fd_law_none uU (zj C) := wN T A_law_none.F
 obtain ⟨f_i_House, fd_i_House, A_i_House, M_House⟩ := T.i_House
 have G_i_House : aK P w K mg base CX0 7 f_i_House fd_i_House fM (BK C) := my T A_i_House.F
 refine F.oq oM fun _ _ _ _ H _ Q E hr h => ?_
 ·obtain ⟨S, ns, rfl, hS, hlen, q⟩ := h
  have hr2 : aR 2 _ := hr.mono (by decide)
  have hr4 : aR 4 _ := hr.mono (by decide)
  have hr5 : aR 5 _ := hr.mono (by decide)
  have hr8 : aR 8 _ := hr
  refine ⟨_, QSs.h (au (xX (aV A_law_made G_law_made hr5 (ak (pv 0) aq)) (oh (K := K) (n := 3) rfl rfl (bL (aL (i := 1) oM.nd rfl (Or.inl rfl)) (bL (aL (i := 2) oM.nd rfl (Or.inr rfl)) (bL (aL (i := 3) oM.nd rfl (Or.inl rfl)) nO)))))
   (au (aP (i := 4) oM.nd rfl (Or.inl rfl) (nH M_House A_i_House.b G_i_House hr8 T.c_House (ak (aV A_law_parts G_law_parts hr4 (ak (pv 2) (ak (pv 3) aq))) aq)))
   (au (bz (kZ (gw (aV A_law_right G_law_right hr8 (ak (pv 4) (ak (pv 2) (ak (pv 3) aq)))))) (aB (aN gZ)) aQ)
   (au (jW (N := ["_law_word", "_law_addresses_here"]) [none, some 2] (i := 5) oM.nd rfl (Or.inl rfl) rfl (by kernel_rfl) (bj (pv 1)) (fun cl C fp s H => (aL (i := 0) (by decide +kernel : (["_law_word", "_law_addresses_here"] : List Str).Nodup) rfl (Or.inl rfl))) (fun cl C fp s H => (jH (aM (pG (K := K) rfl) (pv 0) (pv 1) (by rfl)))) (fun cl C fp s H => (pv 0)))
   (au (cL PassesOwn.never rfl (bj (dm iD (pv 5) jf (cW aA))) (aL (i := 6) oM.nd rfl (Or.inl rfl))
   (au (bz (PW.pt (t6 (kZ (gw (aV A_law_none G_law_none hr8 (ak (pv 4) (ak (pv 6) (ak (bC aX (pv 2) aA (fun _ _ => rfl)) (ak (pv 6) aq))))))) (vJ (kZ (gw (aV A_law_none G_law_none hr8 (ak (pv 4) (ak (bC aX (pv 2) aA (fun _ _ => rfl)) (ak (pv 6) (ak (pv 6) aq)))))))))) (aB (aN gZ)) aQ)
   (aB (bz (kZ (gw (aV A_law_none G_law_none hr8 (ak (pv 4) (ak (pv 6) (ak (bC aX (pv 5) (rW ni aA) (fun _ _ => rfl)) (ak (pv 6) aq))))))) (aB (aN gZ)) aQ))))
   (au (xX (aV A_law_long G_law_long hr2 (ak (pv 0) (ak (pv 1) aq))) (oh (K := K) (n := 2) rfl rfl (bL (aL (i := 2) oM.nd rfl (Or.inr rfl)) (bL (aL (i := 3) oM.nd rfl (Or.inl rfl)) nO))))
   (aB (aN (aV A_law_right G_law_right hr8 (ak (nH M_House A_i_House.b G_i_House hr8 T.c_House (ak (aV A_law_parts G_law_parts hr4 (ak (pv 2) (ak (pv 3) aq))) aq)) (ak (pv 2) (ak (pv 3) aq)))))))))))), ?_⟩
  refine ⟨_, rfl, S, ns, rfl, hS, fun pt lw la R ws as L rs H0 H1 hpt s1 hlw hw8 hwn hla hne g hd hok => ?_⟩
  refine ⟨pt, _, rfl, SqT.of hpt, rfl, _, _, rfl, _, _, rfl, _, _, rfl, rfl, ?_⟩
  refine ⟨_, rfl, _, rfl, H0, R, la, as, L, rs, rfl, hla, g, hd, hok, fun dh H2 xs ps s2 hdh0 px ead hk hof => ?_⟩
  have hla2 := s2 _ _ hla
  have hlw2 := s2 _ _ hlw
  have hd2 := hd.same s2
  have hS2 := (s1.trans s2).seq hS
  clear hpt s1 hS hla hlw hd s2
  have hfl : ∀ zs : List Str, (zs.map V.str).all cN = true := dC
  have s3 : az H2 (upd H2 dh (.lst xs)) := az.new hdh0
  have hdh : (upd H2 dh (.lst xs)) dh = some (.lst xs) := ao
  generalize upd H2 dh (.lst xs) = H3 at s3 hdh
  refine fun x dx hx hdx hne1 => ⟨x, dx, dh, ps, xs, rfl, ao, (bF hx hdx) _ _ hdh, px.same (s3.trans (bF hx hdx)), hk, fun l H4 hl sb hh hlx => ⟨rfl, ?_⟩⟩
  have s34 : az H3 H4 := fun b o e => sb b o (bF hx hdx b o e) (aF e hx)
  have s24 := s3.trans s34
  have hh4 : cF C H4 x l ps := rm hh hlx (px.same s24)
  clear sb hl hx hdx hne1 hh hlx hdh s3 s34
  refine ⟨_, rfl, _, rfl, _, rfl, H0, x, l, la, R, ps, as, L, rs, rfl, hh4, hk, ead, hof, hne, s24 _ _ hla2, g, hd2.same s24, hok, fun H5 s5 => ⟨_, rfl, jy ?_⟩⟩
  have s25 := s24.trans s5
  have hh5 := hh4.same s5
  refine ⟨_, rfl, lw, rfl, ⟨_, SqL.of (s25 _ _ hlw2)⟩, bV (xs := ws.map V.str) (fun v => !inV v ((as.map dotted).map V.str)) (Nat.le_trans (show (ws.map V.str).length ≤ 8 by rw [List.length_map]; omega) (by decide)) (SqL.of (s25 _ _ hlw2)) (fun v H' Q' hv sm k => ?_) (fun v H' Q' hv sm k => ?_) (fun H6 s6 ls hls => ?_)⟩
  ·obtain ⟨z, _, rfl⟩ := List.mem_map.mp hv
   exact ⟨_, rfl, _, rfl, la, _, rfl, .inl (SqL.of ((s25.trans sm) _ _ hla2)), rfl, hfl _, _, rfl, k H' (az.refl _)⟩
  ·exact ⟨_, rfl, k H' (az.refl _)⟩
  have ef : (ws.map V.str).filter (fun v => !inV v ((as.map dotted).map V.str)) = (ws.filter fun y => !decide (y ∈ as.map dotted)).map V.str := by
   rw [dB]
   congr 1
   exact List.filter_congr fun y _ => by rw [m5]
  rw [ef]
  have hst : ∀ w ∈ (ws.filter fun y => !decide (y ∈ as.map dotted)), w ∈ ws ∧ w ∉ as.map dotted := fun w hw => by
   obtain ⟨h1, h2⟩ := List.mem_filter.mp hw
   exact ⟨h1, by simpa using h2⟩
  generalize (ws.filter fun y => !decide (y ∈ as.map dotted)) = st at hst
  have s57 : az H5 (upd H6 ls (.lst (st.map V.str))) := s6.put hls
  have hls7 : (upd H6 ls (.lst (st.map V.str))) ls = some (.lst (st.map V.str)) := ao
  generalize upd H6 ls (.lst (st.map V.str)) = H7 at s57 hls7
  have s27 := s25.trans s57
  have hh7 := hh5.same s57
  have h0l : 0 < as.length := List.length_pos_iff.mpr hne
  have ea0 : as[0]? = some as[0] := List.getElem?_eq_getElem h0l
  have hz0 : dotted as[0] ∈ as.map dotted := List.mem_map.mpr ⟨_, List.getElem_mem h0l, rfl⟩
  have e0 : atI ((as.map dotted).map V.str) 0 = some (V.str (dotted as[0])) := bu (j := 0) (by rw [List.getElem?_map, List.getElem?_map, ea0]; rfl)
  have hz0l : (dotted as[0]).length ≤ 1000 := Nat.le_trans (g.ok _ (List.getElem_mem h0l)).len (by decide)
  generalize dotted as[0] = z0 at hz0 e0 hz0l
  refine ⟨_, rfl, _, rfl, ls, _, rfl, SqL.of hls7, fun c2 hc2 => ?_⟩
  have ec : fB (st.map V.str) none (some 2) = (st.take 2).map V.str := jA _ (by decide)
  rw [ec]
  have s78 : az H7 (upd H7 c2 (.lst ((st.take 2).map V.str))) := az.new hc2
  have hc8 : (upd H7 c2 (.lst ((st.take 2).map V.str))) c2 = some (.lst ((st.take 2).map V.str)) := ao
  generalize upd H7 c2 (.lst ((st.take 2).map V.str)) = H8 at s78 hc8
  have s28 := s27.trans s78
  have hh8 := hh7.same s78
  have hls8 := s78 _ _ hls7
  refine ⟨c2, rfl, ⟨_, SqL.of hc8⟩, ?_⟩
  refine cu (xs := (st.take 2).map V.str) (fun i σ H' => ∃ v6, σ = [some (.ref S), some (.ref lw), some (.ref la), some (.ref R), some (.ref x), some (.ref ls), v6] ∧ az H8 H') ⟨_, rfl, az.refl _⟩ ?_ ?_ ?_
  ·rintro i σ H' _ ⟨v6, rfl, sm⟩
   exact SqL.of (sm _ _ hc8)
  ·rintro i v σ H9 hv ⟨v6, rfl, sm⟩
   obtain ⟨w, hw, rfl⟩ := List.mem_map.mp (List.mem_of_getElem? hv)
   have hwst : w ∈ st := List.mem_of_mem_take hw
   obtain ⟨hww, hwa⟩ := hst w hwst
   have hwp : w ∉ adS ps := by rw [ead]; exact hwa
   have hw1 : w.length ≤ 1000 := Nat.le_trans (hwn w hww).hi (by decide)
   have hz0p : z0 ∈ adS ps := by rw [ead]; exact hz0
   have hla9 := (s28.trans sm) _ _ hla2
   refine ⟨_, rfl, _, rfl, _, rfl, la, _, _, _, rfl, rfl, SqL.of hla9, e0, _, rfl, x, l, ps, w, z0, w, rfl, hh8.same sm, hk, hw1, hz0l, .inl ⟨hwp, rfl⟩, fun H10 s10 => ⟨_, rfl, jy ?_⟩⟩
   have sm10 := sm.trans s10
   refine ⟨_, rfl, _, rfl, la, _, _, _, rfl, rfl, SqL.of ((s28.trans sm10) _ _ hla2), e0, _, rfl, _, rfl, x, l, ps, z0, w, w, rfl, hh8.same sm10, hk, hz0l, hw1, .inr ⟨hz0p, hwp, rfl⟩, fun H11 s11 => ⟨_, rfl, jy ?_⟩⟩
   have sm11 := sm10.trans s11
   have hsne : st ≠ [] := List.ne_nil_of_mem hwst
   obtain ⟨si, sx, rfl⟩ : ∃ si sx, st = si ++ [sx] := ⟨st.dropLast, st.getLast hsne, (List.dropLast_concat_getLast hsne).symm⟩
   have hsx := (hst sx (by simp)).1
   refine ⟨_, rfl, _, rfl, _, rfl, _, rfl, ls, _, _, _, rfl, rfl, SqL.of (sm11 _ _ hls8), qt, _, rfl, x, l, ps, w, sx, w, rfl, hh8.same sm11, hk, hw1, Nat.le_trans (hwn sx hsx).hi (by decide), .inl ⟨hwp, rfl⟩, fun H12 s12 => ⟨_, rfl, jy ?_⟩⟩
   exact ⟨_, rfl, sm11.trans s12⟩
  ·rintro σ H9 ⟨v6, rfl, sm⟩
   have s29 := s28.trans sm
   clear hh8 hh7 hh5 hh4 hls8 hls7 hc8 hz0 e0 ea0 hd2 px hof hk ead
   refine ⟨_, rfl, _, rfl, S, lw, ns, ws, rfl, s29.seq hS2, s29 _ _ hlw2, hw8, hwn, fun p2 la2 R2 as2 L2' rs2 Hb H10 hp2 s10 hla10 hne2 g2 hd10 hok2 => ?_⟩
   refine ⟨p2, _, rfl, SqT.of hp2, rfl, _, _, rfl, _, _, rfl, rfl, ?_⟩
   refine ⟨_, rfl, _, rfl, Hb, R2, la2, as2, L2', rs2, rfl, hla10, g2, hd10, hok2, fun dh2 H11 xs2 ps2 s11 hdh2 px2 ead2 hk2 hof2 => ?_⟩
   have s12 : az H11 (upd H11 dh2 (.lst xs2)) := az.new hdh2
   have hd12 : (upd H11 dh2 (.lst xs2)) dh2 = some (.lst xs2) := ao
   generalize upd H11 dh2 (.lst xs2) = H12 at s12 hd12
   refine fun x2 dx2 hx hdx hne1 => ⟨x2, dx2, dh2, ps2, xs2, rfl, ao, (bF hx hdx) _ _ hd12, px2.same (s12.trans (bF hx hdx)), hk2, fun l2 H13 hl sb hh hlx => ⟨rfl, ?_⟩⟩
   have s13 : az H11 H13 := s12.trans fun b o e => sb b o (bF hx hdx b o e) (aF e hx)
   have s1013 := s11.trans s13
   exact ⟨_, rfl, _, rfl, Hb, x2, l2, la2, R2, ps2, as2, L2', rs2, rfl, rm hh hlx (px2.same s13), hk2, ead2, hof2, hne2, s1013 _ _ hla10, g2, hd10.same s1013, hok2, fun H14 _ => q H14⟩
end
def FI (K : PySem.W.Frag) (x : Str) (st : Stmt) : Prop := ∃ f fd, PySem.W.nsIn K mainGlobals x = some (some (.ref f)) ∧ Fun K x x st f fd
theorem fi {K : PySem.W.Frag} {x : Str} {st : Stmt} {f : Addr} {oc : Value} {od an : Option Addr} {osl : Array (Option Value)} {kV doc pm cdv ct : Value} (a : PySem.W.nsIn K mainGlobals x = some (some (.ref f))) (l : K.lookup f = some ⟨oc, od, .func (PySem.W.fnOf x x (cG st) (bJ st) (aD st) .none kV doc pm an cdv ct), osl⟩) (c : PySem.W.codeIn K cdv x = true) (k : PySem.W.keepIn K (.ref f) = true) : FI K x st := ⟨f, _, a, Dc l c k⟩
def MI (K : PySem.W.Frag) (g : Addr) (x q : Str) (st : Stmt) : Prop := (∃ fd, Fun K x q st g fd) ∧ PySem.W.isFn K (.ref g) = true ∧ PySem.W.keepIn K (.ref g) = true
theorem mi {K : PySem.W.Frag} {x q : Str} {st : Stmt} {f : Addr} {oc : Value} {od an : Option Addr} {osl : Array (Option Value)} {kV doc pm cdv ct : Value} (l : K.lookup f = some ⟨oc, od, .func (PySem.W.fnOf x q (cG st) (bJ st) (aD st) .none kV doc pm an cdv ct), osl⟩) (c : PySem.W.codeIn K cdv q = true) (k : PySem.W.keepIn K (.ref f) = true) (i : PySem.W.isFn K (.ref f) = true) : MI K f x q st := ⟨⟨_, Dc l c k⟩, i, k⟩
structure CI (K : PySem.W.Frag) (C : Addr) (x : Str) : Prop where
 A : PySem.W.nsIn K mainGlobals x = some (some (.ref C))
 pg : PySem.W.plainGet K C Str.empty = true
 hd : PySem.W.hasDictIn K C = true
 po : PySem.W.plainOver K C = true
 sa : PySem.W.findIn K (.ref C) "__setattr__" = some (some (.builtin "object.__setattr__"))
 mq : PySem.W.makesIn K C = true
 kc : PySem.W.keepIn K (.ref C) = true
 ca : PySem.W.findIn K (.ref C) "__class__" = some (some (.builtin "object.__class__"))
 mo : PySem.W.mroIn K C (.type "object") = some true
 ty : PySem.W.typeIn K (.ref C) = some (.type "type")
 mm : PySem.W.mroIn K C (.ref C) = some true
def BA (x q : Str) (st : Stmt) (ps : List Str) (n : Nat) : Prop := ∀ (kV doc pm : Value) (an : Option Addr) (cdv ct : Value) (us : List Value), us.length = n → bindArgs (PySem.W.fnOf x q (cG st) (bJ st) (aD st) .none kV doc pm an cdv ct) ⟨us, []⟩ = pure (ps.zip us)
theorem ba1 {x q : Str} {st : Stmt} {ps : List Str} (h : ∀ (kV doc pm : Value) (an : Option Addr) (cdv ct a : Value), bindArgs (PySem.W.fnOf x q (cG st) (bJ st) (aD st) .none kV doc pm an cdv ct) ⟨[a], []⟩ = pure (ps.zip [a])) : BA x q st ps 1 := fun _ _ _ _ _ _ us hl => by obtain ⟨a, rfl⟩ := Lg hl; exact h ..
theorem ba2 {x q : Str} {st : Stmt} {ps : List Str} (h : ∀ (kV doc pm : Value) (an : Option Addr) (cdv ct a b : Value), bindArgs (PySem.W.fnOf x q (cG st) (bJ st) (aD st) .none kV doc pm an cdv ct) ⟨[a, b], []⟩ = pure (ps.zip [a, b])) : BA x q st ps 2 := fun _ _ _ _ _ _ us hl => by obtain ⟨a, b, rfl⟩ := Ky hl; exact h ..
theorem ba3 {x q : Str} {st : Stmt} {ps : List Str} (h : ∀ (kV doc pm : Value) (an : Option Addr) (cdv ct a b c : Value), bindArgs (PySem.W.fnOf x q (cG st) (bJ st) (aD st) .none kV doc pm an cdv ct) ⟨[a, b, c], []⟩ = pure (ps.zip [a, b, c])) : BA x q st ps 3 := fun _ _ _ _ _ _ us hl => by obtain ⟨a, b, c, rfl⟩ := Lr hl; exact h ..
theorem ba4 {x q : Str} {st : Stmt} {ps : List Str} (h : ∀ (kV doc pm : Value) (an : Option Addr) (cdv ct a b c d : Value), bindArgs (PySem.W.fnOf x q (cG st) (bJ st) (aD st) .none kV doc pm an cdv ct) ⟨[a, b, c, d], []⟩ = pure (ps.zip [a, b, c, d])) : BA x q st ps 4 := fun _ _ _ _ _ _ us hl => by obtain ⟨a, b, c, d, rfl⟩ := NB hl; exact h ..
theorem Tj {us : List Value} (h : us.length = 5) : ∃ a b c d e, us = [a, b, c, d, e] := by
 cases us with
 | nil => cases h
 | cons a t => obtain ⟨b, c, d, e, rfl⟩ := NB (us := t) (by simpa using h); exact ⟨a, b, c, d, e, rfl⟩
theorem ba5 {x q : Str} {st : Stmt} {ps : List Str} (h : ∀ (kV doc pm : Value) (an : Option Addr) (cdv ct a b c d e : Value), bindArgs (PySem.W.fnOf x q (cG st) (bJ st) (aD st) .none kV doc pm an cdv ct) ⟨[a, b, c, d, e], []⟩ = pure (ps.zip [a, b, c, d, e])) : BA x q st ps 5 := fun _ _ _ _ _ _ us hl => by obtain ⟨a, b, c, d, e, rfl⟩ := Tj hl; exact h ..
theorem fat {K : PySem.W.Frag} {h : Heap} {mg : Str → Option Value} {x : Str} {st : Stmt} {ps : List Str} (X : K.In h) (G : h.Ns mainGlobals mg) (b : BA x x st ps ps.length) (i : FI K x st) : ∃ f fd, FnAt K mg x st ps f fd := by
 obtain ⟨f, fd, a, F⟩ := i
 exact ⟨f, fd, F, F.binds b, PySem.W.mg_of X G a⟩
theorem iC {K : PySem.W.Frag} {g : Addr} {x q : Str} {st : Stmt} {ps : List Str} {p : Addr → Prop} (b : BA x q st ps ps.length) (i : MI K g x q st) (z : PySem.W.isFn K (.ref g) = true → PySem.W.keepIn K (.ref g) = true → p g) : ∃ f fd, MAt K x q st ps f fd ∧ p f := by
 obtain ⟨⟨fd, F⟩, i1, i2⟩ := i
 exact ⟨g, fd, ⟨F, F.binds b⟩, z i1 i2⟩
theorem Iz {l : PySem.W.OpenLaw} {w : World} {K : PySem.W.Frag} {h : Heap} {mg : Str → Option Value} {fa g0 g1 g2 g3 g4 g5 g6 g7 g8 g9 g10 g11 g12 g13 g14 g15 g16 g17 g18 g19 g20 g21 C0 C1 C2 C3 C4 C5 C6 C7 C8 gx C20 C21 N20 N21 : Addr} (X : K.In h) (G : h.Ns mainGlobals mg) (hfa : mg "law" = some (.ref fa))
  {nm20 qn20 nm21 qn21 : Str} {bs20 sub20 bs21 sub21 : List Value} {sn20 sn21 : List Str} {ab20 ab21 : Bool} {col20 col21 : Option Bool} {dd20 dd21 : Option Addr} {x020 x120 x220 x320 x520 x021 x121 x221 x321 x521 : Option Value} {oN : Value} {dN : Option Addr} {esN : Array DictEntry} {nN : Nat} {slN : Array (Option Value)}
  {tk0 : Tok}
  (h0 : FI K "prefixes" jG)
  (h1 : FI K "parent_of" iR)
  (h2 : FI K "named_by" jQ)
  (h3 : FI K "check_part" gP)
  (h4 : FI K "links" qi)
  (h5 : FI K "all_links" iQ)
  (h6 : FI K "reached" lZ)
  (h7 : FI K "leads" qg)
  (h8 : FI K "way_between" fK)
  (h9 : FI K "is_orphan" jc)
  (h10 : FI K "is_clash" kJ)
  (h11 : FI K "check_parts" fQ)
  (h12 : FI K "_law_cell" jX)
  (h13 : FI K "_law_pick" jZ)
  (h14 : FI K "_law_words" iK)
  (h15 : FI K "_law_addresses" dH)
  (h16 : FI K "_law_asked" iU)
  (h17 : FI K "_law_drawn" iH)
  (h18 : FI K "_law_rows" lu)
  (h19 : FI K "_law_row" lX)
  (h20 : FI K "_law_parts" iY)
  (h21 : FI K "_law_made" jY)
  (h22 : FI K "_law_prefixes" dW)
  (h23 : FI K "_law_links" jb)
  (h24 : FI K "_law_behind" gJ)
  (h25 : FI K "_law_walked" gK)
  (h26 : FI K "_law_none" jR)
  (h27 : FI K "_law_long" kE)
  (h28 : FI K "_law_right" iM)
  (h29 : FI K "law" BX)
  (D0 : CI K C0 "Let")
  (D1 : CI K C1 "Deed")
  (D2 : CI K C2 "Draw")
  (D3 : CI K C3 "Late")
  (D4 : CI K C4 "Take")
  (D5 : CI K C5 "Need")
  (D6 : CI K C6 "Row")
  (D7 : CI K C7 "Part")
  (D8 : CI K C8 "House")
  (nf0x0 : PySem.W.findIn K (.ref C0) "name" = some none)
  (nf0x1 : PySem.W.findIn K (.ref C0) "terms" = some none)
  (nf0x2 : PySem.W.findIn K (.ref C0) "address" = some none)
  (nf0x3 : PySem.W.findIn K (.ref C0) "word" = some none)
  (mm0x1 : PySem.W.mroIn K C0 (.ref C1) = some false)
  (mm0x2 : PySem.W.mroIn K C0 (.ref C2) = some false)
  (mm0x3 : PySem.W.mroIn K C0 (.ref C3) = some false)
  (mm0x4 : PySem.W.mroIn K C0 (.ref C4) = some false)
  (mm0x5 : PySem.W.mroIn K C0 (.ref C5) = some false)
  (mm0x6 : PySem.W.mroIn K C0 (.ref C6) = some true)
  (nf1x0 : PySem.W.findIn K (.ref C1) "name" = some none)
  (nf1x1 : PySem.W.findIn K (.ref C1) "terms" = some none)
  (nf1x2 : PySem.W.findIn K (.ref C1) "address" = some none)
  (nf1x3 : PySem.W.findIn K (.ref C1) "word" = some none)
  (mm1x0 : PySem.W.mroIn K C1 (.ref C0) = some false)
  (mm1x2 : PySem.W.mroIn K C1 (.ref C2) = some false)
  (mm1x3 : PySem.W.mroIn K C1 (.ref C3) = some false)
  (mm1x4 : PySem.W.mroIn K C1 (.ref C4) = some false)
  (mm1x5 : PySem.W.mroIn K C1 (.ref C5) = some false)
  (mm1x6 : PySem.W.mroIn K C1 (.ref C6) = some true)
  (nf2x0 : PySem.W.findIn K (.ref C2) "name" = some none)
  (nf2x1 : PySem.W.findIn K (.ref C2) "terms" = some none)
  (nf2x2 : PySem.W.findIn K (.ref C2) "address" = some none)
  (nf2x3 : PySem.W.findIn K (.ref C2) "word" = some none)
  (mm2x0 : PySem.W.mroIn K C2 (.ref C0) = some false)
  (mm2x1 : PySem.W.mroIn K C2 (.ref C1) = some false)
  (mm2x3 : PySem.W.mroIn K C2 (.ref C3) = some false)
  (mm2x4 : PySem.W.mroIn K C2 (.ref C4) = some false)
  (mm2x5 : PySem.W.mroIn K C2 (.ref C5) = some false)
  (mm2x6 : PySem.W.mroIn K C2 (.ref C6) = some true)
  (nf3x0 : PySem.W.findIn K (.ref C3) "name" = some none)
  (nf3x1 : PySem.W.findIn K (.ref C3) "terms" = some none)
  (nf3x2 : PySem.W.findIn K (.ref C3) "address" = some none)
  (nf3x3 : PySem.W.findIn K (.ref C3) "word" = some none)
  (mm3x0 : PySem.W.mroIn K C3 (.ref C0) = some false)
  (mm3x1 : PySem.W.mroIn K C3 (.ref C1) = some false)
  (mm3x2 : PySem.W.mroIn K C3 (.ref C2) = some false)
  (mm3x4 : PySem.W.mroIn K C3 (.ref C4) = some false)
  (mm3x5 : PySem.W.mroIn K C3 (.ref C5) = some false)
  (mm3x6 : PySem.W.mroIn K C3 (.ref C6) = some true)
  (nf4x0 : PySem.W.findIn K (.ref C4) "name" = some none)
  (nf4x1 : PySem.W.findIn K (.ref C4) "terms" = some none)
  (nf4x2 : PySem.W.findIn K (.ref C4) "address" = some none)
  (nf4x3 : PySem.W.findIn K (.ref C4) "word" = some none)
  (mm4x0 : PySem.W.mroIn K C4 (.ref C0) = some false)
  (mm4x1 : PySem.W.mroIn K C4 (.ref C1) = some false)
  (mm4x2 : PySem.W.mroIn K C4 (.ref C2) = some false)
  (mm4x3 : PySem.W.mroIn K C4 (.ref C3) = some false)
  (mm4x5 : PySem.W.mroIn K C4 (.ref C5) = some false)
  (mm4x6 : PySem.W.mroIn K C4 (.ref C6) = some true)
  (nf5x0 : PySem.W.findIn K (.ref C5) "name" = some none)
  (nf5x1 : PySem.W.findIn K (.ref C5) "terms" = some none)
  (nf5x2 : PySem.W.findIn K (.ref C5) "address" = some none)
  (nf5x3 : PySem.W.findIn K (.ref C5) "word" = some none)
  (mm5x0 : PySem.W.mroIn K C5 (.ref C0) = some false)
  (mm5x1 : PySem.W.mroIn K C5 (.ref C1) = some false)
  (mm5x2 : PySem.W.mroIn K C5 (.ref C2) = some false)
  (mm5x3 : PySem.W.mroIn K C5 (.ref C3) = some false)
  (mm5x4 : PySem.W.mroIn K C5 (.ref C4) = some false)
  (mm5x6 : PySem.W.mroIn K C5 (.ref C6) = some true)
  (nf6x0 : PySem.W.findIn K (.ref C6) "name" = some none)
  (nf6x1 : PySem.W.findIn K (.ref C6) "terms" = some none)
  (nf6x2 : PySem.W.findIn K (.ref C6) "address" = some none)
  (nf6x3 : PySem.W.findIn K (.ref C6) "word" = some none)
  (mm6x0 : PySem.W.mroIn K C6 (.ref C0) = some false)
  (mm6x1 : PySem.W.mroIn K C6 (.ref C1) = some false)
  (mm6x2 : PySem.W.mroIn K C6 (.ref C2) = some false)
  (mm6x3 : PySem.W.mroIn K C6 (.ref C3) = some false)
  (mm6x4 : PySem.W.mroIn K C6 (.ref C4) = some false)
  (mm6x5 : PySem.W.mroIn K C6 (.ref C5) = some false)
  (nf7x0 : PySem.W.findIn K (.ref C7) "address" = some none)
  (nf7x1 : PySem.W.findIn K (.ref C7) "rows" = some none)
  (nf8x0 : PySem.W.findIn K (.ref C8) "told" = some none)
  (u0x5 : PySem.W.findIn K (.ref C5) "binds" = some (some (.ref g0)))
  (u0x6 : PySem.W.findIn K (.ref C6) "binds" = some (some (.ref g0)))
  (j0 : MI K g0 "binds" "Row.binds" fJ)
  (u1x0 : PySem.W.findIn K (.ref C0) "asked" = some (some (.ref g1)))
  (u1x1 : PySem.W.findIn K (.ref C1) "asked" = some (some (.ref g1)))
  (u1x5 : PySem.W.findIn K (.ref C5) "asked" = some (some (.ref g1)))
  (u1x6 : PySem.W.findIn K (.ref C6) "asked" = some (some (.ref g1)))
  (j1 : MI K g1 "asked" "Row.asked" fL)
  (u2x0 : PySem.W.findIn K (.ref C0) "__init__" = some (some (.ref g2)))
  (j2 : MI K g2 "__init__" "Let.__init__" du)
  (u3x0 : PySem.W.findIn K (.ref C0) "binds" = some (some (.ref g3)))
  (j3 : MI K g3 "binds" "Let.binds" fX)
  (u4x1 : PySem.W.findIn K (.ref C1) "__init__" = some (some (.ref g4)))
  (j4 : MI K g4 "__init__" "Deed.__init__" cU)
  (u5x1 : PySem.W.findIn K (.ref C1) "binds" = some (some (.ref g5)))
  (j5 : MI K g5 "binds" "Deed.binds" dO)
  (u6x2 : PySem.W.findIn K (.ref C2) "__init__" = some (some (.ref g6)))
  (j6 : MI K g6 "__init__" "Draw.__init__" cQ)
  (u7x2 : PySem.W.findIn K (.ref C2) "binds" = some (some (.ref g7)))
  (j7 : MI K g7 "binds" "Draw.binds" eY)
  (u8x2 : PySem.W.findIn K (.ref C2) "asked" = some (some (.ref g8)))
  (j8 : MI K g8 "asked" "Draw.asked" eQ)
  (u9x3 : PySem.W.findIn K (.ref C3) "__init__" = some (some (.ref g9)))
  (j9 : MI K g9 "__init__" "Late.__init__" cM)
  (u10x3 : PySem.W.findIn K (.ref C3) "binds" = some (some (.ref g10)))
  (j10 : MI K g10 "binds" "Late.binds" d7)
  (u11x3 : PySem.W.findIn K (.ref C3) "asked" = some (some (.ref g11)))
  (j11 : MI K g11 "asked" "Late.asked" dU)
  (u12x4 : PySem.W.findIn K (.ref C4) "__init__" = some (some (.ref g12)))
  (j12 : MI K g12 "__init__" "Take.__init__" cP)
  (u13x4 : PySem.W.findIn K (.ref C4) "binds" = some (some (.ref g13)))
  (j13 : MI K g13 "binds" "Take.binds" eV)
  (u14x4 : PySem.W.findIn K (.ref C4) "asked" = some (some (.ref g14)))
  (j14 : MI K g14 "asked" "Take.asked" eO)
  (u15x5 : PySem.W.findIn K (.ref C5) "__init__" = some (some (.ref g15)))
  (j15 : MI K g15 "__init__" "Need.__init__" cR)
  (u16x8 : PySem.W.findIn K (.ref C8) "__init__" = some (some (.ref g16)))
  (j16 : MI K g16 "__init__" "House.__init__" cC)
  (u17x8 : PySem.W.findIn K (.ref C8) "addresses" = some (some (.ref g17)))
  (j17 : MI K g17 "addresses" "House.addresses" bY)
  (u18x8 : PySem.W.findIn K (.ref C8) "has" = some (some (.ref g18)))
  (j18 : MI K g18 "has" "House.has" fV)
  (u19x8 : PySem.W.findIn K (.ref C8) "part" = some (some (.ref g19)))
  (j19 : MI K g19 "part" "House.part" dY)
  (u20x7 : PySem.W.findIn K (.ref C7) "__init__" = some (some (.ref g20)))
  (j20 : MI K g20 "__init__" "Part.__init__" cT)
  (u21x7 : PySem.W.findIn K (.ref C7) "bound" = some (some (.ref g21)))
  (j21 : MI K g21 "bound" "Part.bound" eG)
  (A20 : PySem.W.nsIn K mainGlobals "HouseError" = some (some (.ref C20)))
  (B20 : K.lookup C20 = some (excClassObj nm20 qn20 C20 N20 bs20 qR true sn20 sub20 ab20 col20 dd20 x020 x120 x220 x320 x520 "ValueError.__new__"))
  (A21 : PySem.W.nsIn K mainGlobals "NoPart" = some (some (.ref C21)))
  (B21 : K.lookup C21 = some (excClassObj nm21 qn21 C21 N21 bs21 (.ref C20 :: qR) true sn21 sub21 ab21 col21 dd21 x021 x121 x221 x321 x521 "ValueError.__new__"))
  (E0 : PySem.W.findIn K (.ref C21) "__getattribute__" = some (some (.builtin "BaseException.__getattribute__")))
  (E1 : PySem.W.findIn K (.ref C21) "__getattr__" = some none)
  (E2 : PySem.W.findIn K (.ref C21) "__setattr__" = some (some (.builtin "object.__setattr__")))
  (E3 : PySem.W.findIn K (.ref C21) "__class__" = some (some (.builtin "object.__class__")))
  (E4 : PySem.W.findIn K (.ref C21) "address" = some none)
  (E5 : PySem.W.findIn K (.ref C21) "__init__" = some (some (.ref gx)))
  (P21 : PySem.W.keepIn K (.ref C21) = true)
  (jx : MI K gx "__init__" "NoPart.__init__" iw)
  (y1 : PySem.W.specialIn K (.ref C20) "__getattribute__" = some (some (.builtin "type.__getattribute__")))
  (y2 : PySem.W.readsIn K C20 (.type "type") = true)
  (y3 : PySem.W.findCls K (.ref C20) (.type "type") "__init__" = some (.val (.builtin "ValueError.__init__")))
  (NH : K.lookup N20 = some ⟨oN, dN, .dict esN nN, slN⟩)
  (SK : nF esN = true)
  (NI : nsFind esN "__init__" = none)
  (oi : PySem.W.findIn K (.ref C6) "__init__" = some (some (.builtin "object.__init__")))
  (cg : PySem.W.specialIn K (.builtin "object.__class__") "__get__" = some (some (.builtin "getset_descriptor.__get__")))
  (ctk : PySem.W.takesIn K (.builtin "object.__class__") = some true)
  (gc0 : PySem.W.nsIn K mainGlobals "MOST_PARTS" = some (some (.int 12 tk0)))
  (z0 : PySem.W.nsIn K mainGlobals "sorted" = some none)
  (z1 : PySem.W.nsIn K mainGlobals "dict" = some none)
  (z2 : PySem.W.nsIn K mainGlobals "any" = some none)
  (z3 : PySem.W.nsIn K mainGlobals "enumerate" = some none)
  (z4 : PySem.W.nsIn K mainGlobals "len" = some none)
  (z5 : PySem.W.nsIn K mainGlobals "range" = some none)
  (z6 : PySem.W.nsIn K mainGlobals "isinstance" = some none)
  (z7 : PySem.W.nsIn K mainGlobals "str" = some none)
  (z8 : PySem.W.nsIn K mainGlobals "int" = some none)
  (z9 : PySem.W.nsIn K mainGlobals "bool" = some none)
  (z10 : PySem.W.nsIn K mainGlobals "list" = some none)
  (z11 : PySem.W.nsIn K mainGlobals "tuple" = some none)
  (z12 : PySem.W.nsIn K mainGlobals "all" = some none)
  (z13 : PySem.W.nsIn K mainGlobals "max" = some none)
  (z14 : PySem.W.nsIn K mainGlobals "min" = some none)
  (z15 : PySem.W.nsIn K mainGlobals "zip" = some none) :
  ∃ fd : FuncData, (∀ (s : Shared) (v : Value), BindsTo s fd ⟨[v], []⟩ [("_law_script", v)]) ∧ ∀ base : Heap, K.In base → base.Ns mainGlobals mg → aK l.prog w K mg base CX0 9 fa fd ["_law_script"] (zK K) := by
 have R0 : RCl K C0 := ⟨⟨D0.pg, D0.hd, D0.po, D0.sa⟩, D0.ca, cg, ctk, D0.mo⟩
 have R1 : RCl K C1 := ⟨⟨D1.pg, D1.hd, D1.po, D1.sa⟩, D1.ca, cg, ctk, D1.mo⟩
 have R2 : RCl K C2 := ⟨⟨D2.pg, D2.hd, D2.po, D2.sa⟩, D2.ca, cg, ctk, D2.mo⟩
 have R3 : RCl K C3 := ⟨⟨D3.pg, D3.hd, D3.po, D3.sa⟩, D3.ca, cg, ctk, D3.mo⟩
 have R4 : RCl K C4 := ⟨⟨D4.pg, D4.hd, D4.po, D4.sa⟩, D4.ca, cg, ctk, D4.mo⟩
 have R5 : RCl K C5 := ⟨⟨D5.pg, D5.hd, D5.po, D5.sa⟩, D5.ca, cg, ctk, D5.mo⟩
 have R6 : RCl K C6 := ⟨⟨D6.pg, D6.hd, D6.po, D6.sa⟩, D6.ca, cg, ctk, D6.mo⟩
 have R7 : RCl K C7 := ⟨⟨D7.pg, D7.hd, D7.po, D7.sa⟩, D7.ca, cg, ctk, D7.mo⟩
 have R8 : RCl K C8 := ⟨⟨D8.pg, D8.hd, D8.po, D8.sa⟩, D8.ca, cg, ctk, D8.mo⟩
 have FM : Ju K (fun i => [C0, C1, C2, C3, C4, C5, C6, C7, C8, 0, 0, 0, 0, 0, 0, 0, 0, 0, 0, 0, C20, C21].getD i 0) := ⟨oX R0 R1 R2 R3 R4 R5 R6, fun i j h1 h2 => oX (p := fun i => ∀ j, j ≤ 6 → PySem.W.kitOne K (.ref ([C0, C1, C2, C3, C4, C5, C6, C7, C8, 0, 0, 0, 0, 0, 0, 0, 0, 0, 0, 0, C20, C21].getD i 0)) (.ref ([C0, C1, C2, C3, C4, C5, C6, C7, C8, 0, 0, 0, 0, 0, 0, 0, 0, 0, 0, 0, C20, C21].getD j 0)) = some (pQ i j)) (oX (aO D0.mm D0.mm D0.mo D0.ty) (aO mm0x1 D1.mm D1.mo D1.ty) (aO mm0x2 D2.mm D2.mo D2.ty) (aO mm0x3 D3.mm D3.mo D3.ty) (aO mm0x4 D4.mm D4.mo D4.ty) (aO mm0x5 D5.mm D5.mo D5.ty) (aO mm0x6 D6.mm D6.mo D6.ty)) (oX (aO mm1x0 D0.mm D0.mo D0.ty) (aO D1.mm D1.mm D1.mo D1.ty) (aO mm1x2 D2.mm D2.mo D2.ty) (aO mm1x3 D3.mm D3.mo D3.ty) (aO mm1x4 D4.mm D4.mo D4.ty) (aO mm1x5 D5.mm D5.mo D5.ty) (aO mm1x6 D6.mm D6.mo D6.ty)) (oX (aO mm2x0 D0.mm D0.mo D0.ty) (aO mm2x1 D1.mm D1.mo D1.ty) (aO D2.mm D2.mm D2.mo D2.ty) (aO mm2x3 D3.mm D3.mo D3.ty) (aO mm2x4 D4.mm D4.mo D4.ty) (aO mm2x5 D5.mm D5.mo D5.ty) (aO mm2x6 D6.mm D6.mo D6.ty)) (oX (aO mm3x0 D0.mm D0.mo D0.ty) (aO mm3x1 D1.mm D1.mo D1.ty) (aO mm3x2 D2.mm D2.mo D2.ty) (aO D3.mm D3.mm D3.mo D3.ty) (aO mm3x4 D4.mm D4.mo D4.ty) (aO mm3x5 D5.mm D5.mo D5.ty) (aO mm3x6 D6.mm D6.mo D6.ty)) (oX (aO mm4x0 D0.mm D0.mo D0.ty) (aO mm4x1 D1.mm D1.mo D1.ty) (aO mm4x2 D2.mm D2.mo D2.ty) (aO mm4x3 D3.mm D3.mo D3.ty) (aO D4.mm D4.mm D4.mo D4.ty) (aO mm4x5 D5.mm D5.mo D5.ty) (aO mm4x6 D6.mm D6.mo D6.ty)) (oX (aO mm5x0 D0.mm D0.mo D0.ty) (aO mm5x1 D1.mm D1.mo D1.ty) (aO mm5x2 D2.mm D2.mo D2.ty) (aO mm5x3 D3.mm D3.mo D3.ty) (aO mm5x4 D4.mm D4.mo D4.ty) (aO D5.mm D5.mm D5.mo D5.ty) (aO mm5x6 D6.mm D6.mo D6.ty)) (oX (aO mm6x0 D0.mm D0.mo D0.ty) (aO mm6x1 D1.mm D1.mo D1.ty) (aO mm6x2 D2.mm D2.mo D2.ty) (aO mm6x3 D3.mm D3.mo D3.ty) (aO mm6x4 D4.mm D4.mo D4.ty) (aO mm6x5 D5.mm D5.mo D5.ty) (aO D6.mm D6.mm D6.mo D6.ty)) i h1 j h2, oX nf0x0 nf1x0 nf2x0 nf3x0 nf4x0 nf5x0 nf6x0, oX nf0x1 nf1x1 nf2x1 nf3x1 nf4x1 nf5x1 nf6x1, oX nf0x2 nf1x2 nf2x2 nf3x2 nf4x2 nf5x2 nf6x2, oX nf0x3 nf1x3 nf2x3 nf3x3 nf4x3 nf5x3 nf6x3⟩
 have IX : ∃ f fd, XIn K C21 "NoPart.__init__" iw fc f fd := by
  obtain ⟨⟨fd, F⟩, i1, i2⟩ := jx
  exact ⟨gx, fd, F, F.binds (ba2 fun _ _ _ _ _ _ _ _ => rfl), E5, i1, P21, by decide⟩
 have TT : Tx K mg (fun i => [C0, C1, C2, C3, C4, C5, C6, C7, C8, 0, 0, 0, 0, 0, 0, 0, 0, 0, 0, 0, C20, C21].getD i 0) := ⟨PySem.W.mg_none_of X G z0, PySem.W.mg_none_of X G z1, PySem.W.mg_none_of X G z2, PySem.W.mg_none_of X G z3, PySem.W.mg_none_of X G z4, PySem.W.mg_none_of X G z5, PySem.W.mg_none_of X G z6, PySem.W.mg_none_of X G z7, PySem.W.mg_none_of X G z8, PySem.W.mg_none_of X G z9, PySem.W.mg_none_of X G z10, PySem.W.mg_none_of X G z11, PySem.W.mg_none_of X G z12, PySem.W.mg_none_of X G z13, PySem.W.mg_none_of X G z14, PySem.W.mg_none_of X G z15, ⟨_, PySem.W.mg_of X G gc0⟩, fat X G (ba1 fun _ _ _ _ _ _ _ => rfl) h0, fat X G (ba1 fun _ _ _ _ _ _ _ => rfl) h1, fat X G (ba1 fun _ _ _ _ _ _ _ => rfl) h2, fat X G (ba2 fun _ _ _ _ _ _ _ _ => rfl) h3, fat X G (ba2 fun _ _ _ _ _ _ _ _ => rfl) h4, fat X G (ba1 fun _ _ _ _ _ _ _ => rfl) h5, fat X G (ba2 fun _ _ _ _ _ _ _ _ => rfl) h6, fat X G (ba2 fun _ _ _ _ _ _ _ _ => rfl) h7, fat X G (ba3 fun _ _ _ _ _ _ _ _ _ => rfl) h8, fat X G (ba2 fun _ _ _ _ _ _ _ _ => rfl) h9, fat X G (ba2 fun _ _ _ _ _ _ _ _ => rfl) h10, fat X G (ba1 fun _ _ _ _ _ _ _ => rfl) h11, fat X G (ba2 fun _ _ _ _ _ _ _ _ => rfl) h12, fat X G (ba3 fun _ _ _ _ _ _ _ _ _ => rfl) h13, fat X G (ba1 fun _ _ _ _ _ _ _ => rfl) h14, fat X G (ba3 fun _ _ _ _ _ _ _ _ _ => rfl) h15, fat X G (ba3 fun _ _ _ _ _ _ _ _ _ => rfl) h16, fat X G (ba4 fun _ _ _ _ _ _ _ _ _ _ => rfl) h17, fat X G (ba3 fun _ _ _ _ _ _ _ _ _ => rfl) h18, fat X G (ba1 fun _ _ _ _ _ _ _ => rfl) h19, fat X G (ba2 fun _ _ _ _ _ _ _ _ => rfl) h20, fat X G (ba1 fun _ _ _ _ _ _ _ => rfl) h21, fat X G (ba1 fun _ _ _ _ _ _ _ => rfl) h22, fat X G (ba3 fun _ _ _ _ _ _ _ _ _ => rfl) h23, fat X G (ba2 fun _ _ _ _ _ _ _ _ => rfl) h24, fat X G (ba5 fun _ _ _ _ _ _ _ _ _ _ _ => rfl) h25, fat X G (ba4 fun _ _ _ _ _ _ _ _ _ _ => rfl) h26, fat X G (ba2 fun _ _ _ _ _ _ _ _ => rfl) h27, fat X G (ba3 fun _ _ _ _ _ _ _ _ _ => rfl) h28, iC (ba1 fun _ _ _ _ _ _ _ => rfl) j0 fun i k => ⟨⟨u0x5, i, k⟩, ⟨u0x6, i, k⟩⟩, iC (ba1 fun _ _ _ _ _ _ _ => rfl) j1 fun i k => ⟨⟨u1x0, i, k⟩, ⟨u1x1, i, k⟩, ⟨u1x5, i, k⟩, ⟨u1x6, i, k⟩⟩, iC (ba3 fun _ _ _ _ _ _ _ _ _ => rfl) j2 fun i k => ⟨D0.mq, u2x0, i, D0.kc⟩, iC (ba1 fun _ _ _ _ _ _ _ => rfl) j3 fun i k => ⟨u3x0, i, k⟩, iC (ba3 fun _ _ _ _ _ _ _ _ _ => rfl) j4 fun i k => ⟨D1.mq, u4x1, i, D1.kc⟩, iC (ba1 fun _ _ _ _ _ _ _ => rfl) j5 fun i k => ⟨u5x1, i, k⟩, iC (ba3 fun _ _ _ _ _ _ _ _ _ => rfl) j6 fun i k => ⟨D2.mq, u6x2, i, D2.kc⟩, iC (ba1 fun _ _ _ _ _ _ _ => rfl) j7 fun i k => ⟨u7x2, i, k⟩, iC (ba1 fun _ _ _ _ _ _ _ => rfl) j8 fun i k => ⟨u8x2, i, k⟩, iC (ba3 fun _ _ _ _ _ _ _ _ _ => rfl) j9 fun i k => ⟨D3.mq, u9x3, i, D3.kc⟩, iC (ba1 fun _ _ _ _ _ _ _ => rfl) j10 fun i k => ⟨u10x3, i, k⟩, iC (ba1 fun _ _ _ _ _ _ _ => rfl) j11 fun i k => ⟨u11x3, i, k⟩, iC (ba4 fun _ _ _ _ _ _ _ _ _ _ => rfl) j12 fun i k => ⟨D4.mq, u12x4, i, D4.kc⟩, iC (ba1 fun _ _ _ _ _ _ _ => rfl) j13 fun i k => ⟨u13x4, i, k⟩, iC (ba1 fun _ _ _ _ _ _ _ => rfl) j14 fun i k => ⟨u14x4, i, k⟩, iC (ba2 fun _ _ _ _ _ _ _ _ => rfl) j15 fun i k => ⟨D5.mq, u15x5, i, D5.kc⟩, iC (ba2 fun _ _ _ _ _ _ _ _ => rfl) j16 fun i k => ⟨D8.mq, u16x8, i, D8.kc⟩, iC (ba1 fun _ _ _ _ _ _ _ => rfl) j17 fun i k => ⟨u17x8, i, k⟩, iC (ba2 fun _ _ _ _ _ _ _ _ => rfl) j18 fun i k => ⟨u18x8, i, k⟩, iC (ba2 fun _ _ _ _ _ _ _ _ => rfl) j19 fun i k => ⟨u19x8, i, k⟩, iC (ba3 fun _ _ _ _ _ _ _ _ _ => rfl) j20 fun i k => ⟨D7.mq, u20x7, i, D7.kc⟩, iC (ba1 fun _ _ _ _ _ _ _ => rfl) j21 fun i k => ⟨u21x7, i, k⟩, PySem.W.mg_of X G D0.A, PySem.W.mg_of X G D1.A, PySem.W.mg_of X G D2.A, PySem.W.mg_of X G D3.A, PySem.W.mg_of X G D4.A, PySem.W.mg_of X G D5.A, PySem.W.mg_of X G D6.A, PySem.W.mg_of X G D7.A, PySem.W.mg_of X G D8.A, ⟨D6.mq, oi, D6.kc⟩, FM, ⟨R7, nf7x0, nf7x1, aO D7.mm D7.mm D7.mo D7.ty⟩, ⟨R8, nf8x0⟩, PySem.W.mg_of X G A20, PySem.W.mg_of X G A21, Iv B20, Eo B20 NH SK NI B21, FN B21 rfl rfl E0 E1 E2 E3 cg ctk, ⟨_, _, _, _, _, _, _, _, _, _, _, _, _, _, _, _, _, B21, by simp⟩, E4, (Ei B21 B21).trans (by simp), IX, y1, y2, y3⟩
 obtain ⟨f, fd, a, F⟩ := h29
 cases hfa.symm.trans (PySem.W.mg_of X G a)
 obtain ⟨oc, od, kV, doc, pm, an, cdv, ct, osl, rfl, lk, hcd⟩ := id F.ex
 exact ⟨_, fun s v => .of_eq rfl, fun base _ _ => HQ TT F⟩
theorem walk {l : PySem.W.OpenLaw} {q : Program} {loose : List Str} {XP : (Str → Option Value) → Heap → Prop} {YP : World → Heap → Prop} {d : DefRec} {K : Params → PySem.W.Frag} (hn : l.most = some 63) (hdf : d.params.defaults = [])
  (hY : ∀ (w : World) (h : Heap), YP w h → (K w.params).In h)
  (F : ∀ (w : World) (mg : Str → Option Value) (fa : Addr) (h : Heap), (K w.params).In h → h.Ns mainGlobals mg → mg d.name = some (.ref fa) →
   ∃ fd : FuncData, (∀ (s : Shared) (u : Value), BindsTo s fd ⟨[u], []⟩ [("_law_script", u)]) ∧ ∀ base : Heap, (K w.params).In base → base.Ns mainGlobals mg → aK l.prog w (K w.params) mg base CX0 9 fa fd ["_law_script"] (zK (K w.params))) :
  PySem.W.WalkO q loose XP YP l.row.toRowW d [] (fun f vs => PySem.call f vs) :=
 L2.Em (n := 63) (k := 9) (x := "_law_script") (CX := fun _ => CX0) (sp := fun w => zK (K w.params)) hn (by decide) hdf ⟨rfl, by decide, by decide⟩ hY F (fun _ _ a ns hl _ hS => ⟨a, ns, rfl, hS, hl, fun _ => rfl⟩) fun _ _ _ _ _ z => z
noncomputable abbrev ke (P : Params) (x : Str) (t : Nat) (v : Value) : DictEntry := ⟨PyData.keyHash P x, .str x t, v⟩
open PySem in
noncomputable abbrev kf (s : Stmt) (n q m : Str) (t c : Nat) : Obj := { cls := .type "function", data := .func { name := n, qualname := q, params := L2.cG s, body := .stmts (L2.bJ s), scope := L2.aD s, globals := 3, closure := [], defaults := .none, kwdefaults := .none, pyModule := .str m t, code := .ref c } }
open PySem in
noncomputable abbrev kc (n q : Str) (a b c : Nat) (l k : Int) (f r : Nat) (t : Bool) (g : Int) (u : Nat) (x y z : Value) (v : Nat) (m : Int) (e : Nat) : Obj := { cls := .type "code", data := .fields #[.str n a, .str q b, .str "/claim/cut.py" c, .int l 0, .int k 0, .int 0 0, .int 0 0, .int f 0, .ref r, .bool t, .int g 0, .ref u, x, y, z, .ref v, .int m 0, .int l 0, .str "/claim/cut.py" e] }
noncomputable abbrev k20 : Obj := kc "_wall" "_wall" 187 188 189 1 1 3 15 true 181 16 .none (.ref 17) (.ref 18) 19 191 192
noncomputable abbrev k21 : Obj := kf (Mine.top 0) "_wall" "_wall" "__main__" 164 20
noncomputable abbrev k30 (P : PySem.Params) : Obj := { cls := .type "dict", data := .dict #[ke P "__module__" 203 (.str "drawhouse.errors" 194), ke P "__firstlineno__" 207 (.int 5 206), ke P "__static_attributes__" 208 (.ref 29), ke P "__weakref__" 210 (.ref 32), ke P "__doc__" 211 .none] 3 }
noncomputable abbrev k31 : Obj := { cls := .type "type", data := .cls { name := "HouseError", bases := [.type "ValueError"], mro := [.ref 31, .type "ValueError", .type "Exception", .type "BaseException", .type "object"], ns := 30, qualname := "HouseError", subclasses := [.ref 51, .ref 70, .ref 89, .ref 108, .ref 127] }, slots := #[some (.ref 22), none, some (.str "HouseError" 196), some (.str "HouseError" 204), some (.builtin "ValueError.__new__"), some (.bool true)] }
noncomputable abbrev k32 : Obj := { cls := .type "getset_descriptor", data := .fields #[.str "__weakref__" 209, .ref 31, .builtin "ExceptionGroup.__weakref__", .none] }
noncomputable abbrev k47 : Obj := kc "__init__" "TooMany.__init__" 226 227 228 9 2 3 42 true 181 43 .none (.ref 44) (.ref 45) 46 231 232
noncomputable abbrev k48 : Obj := kf ((Mine.aC (Mine.top 3)).getD 0 (.Pass ⟨0, 0, 0, 0⟩)) "__init__" "TooMany.__init__" "drawhouse.errors" 194 47
noncomputable abbrev k50 (P : PySem.Params) : Obj := { cls := .type "dict", data := .dict #[ke P "__module__" 221 (.str "drawhouse.errors" 194), ke P "__firstlineno__" 225 (.int 7 224), ke P "__init__" 233 (.ref 48), ke P "__static_attributes__" 235 (.ref 49), ke P "__doc__" 236 .none] 2 }
noncomputable abbrev k51 : Obj := { cls := .type "type", data := .cls { name := "TooMany", bases := [.ref 31], mro := [.ref 51, .ref 31, .type "ValueError", .type "Exception", .type "BaseException", .type "object"], ns := 50, qualname := "TooMany" }, slots := #[some (.ref 35), none, some (.str "TooMany" 214), some (.str "TooMany" 222), some (.builtin "ValueError.__new__"), some (.bool true)] }
noncomputable abbrev k66 : Obj := kc "__init__" "Double.__init__" 251 252 253 14 2 3 61 true 181 62 .none (.ref 63) (.ref 64) 65 256 257
noncomputable abbrev k67 : Obj := kf ((Mine.aC (Mine.top 4)).getD 0 (.Pass ⟨0, 0, 0, 0⟩)) "__init__" "Double.__init__" "drawhouse.errors" 194 66
noncomputable abbrev k69 (P : PySem.Params) : Obj := { cls := .type "dict", data := .dict #[ke P "__module__" 246 (.str "drawhouse.errors" 194), ke P "__firstlineno__" 250 (.int 12 249), ke P "__init__" 258 (.ref 67), ke P "__static_attributes__" 260 (.ref 68), ke P "__doc__" 261 .none] 2 }
noncomputable abbrev k70 : Obj := { cls := .type "type", data := .cls { name := "Double", bases := [.ref 31], mro := [.ref 70, .ref 31, .type "ValueError", .type "Exception", .type "BaseException", .type "object"], ns := 69, qualname := "Double" }, slots := #[some (.ref 54), none, some (.str "Double" 239), some (.str "Double" 247), some (.builtin "ValueError.__new__"), some (.bool true)] }
noncomputable abbrev k85 : Obj := kc "__init__" "Orphan.__init__" 276 277 278 19 2 3 80 true 181 81 .none (.ref 82) (.ref 83) 84 281 282
noncomputable abbrev k86 : Obj := kf ((Mine.aC (Mine.top 5)).getD 0 (.Pass ⟨0, 0, 0, 0⟩)) "__init__" "Orphan.__init__" "drawhouse.errors" 194 85
noncomputable abbrev k88 (P : PySem.Params) : Obj := { cls := .type "dict", data := .dict #[ke P "__module__" 271 (.str "drawhouse.errors" 194), ke P "__firstlineno__" 275 (.int 17 274), ke P "__init__" 283 (.ref 86), ke P "__static_attributes__" 285 (.ref 87), ke P "__doc__" 286 .none] 2 }
noncomputable abbrev k89 : Obj := { cls := .type "type", data := .cls { name := "Orphan", bases := [.ref 31], mro := [.ref 89, .ref 31, .type "ValueError", .type "Exception", .type "BaseException", .type "object"], ns := 88, qualname := "Orphan" }, slots := #[some (.ref 73), none, some (.str "Orphan" 264), some (.str "Orphan" 272), some (.builtin "ValueError.__new__"), some (.bool true)] }
noncomputable abbrev k104 : Obj := kc "__init__" "Clash.__init__" 301 302 303 24 2 3 99 true 181 100 .none (.ref 101) (.ref 102) 103 306 307
noncomputable abbrev k105 : Obj := kf ((Mine.aC (Mine.top 6)).getD 0 (.Pass ⟨0, 0, 0, 0⟩)) "__init__" "Clash.__init__" "drawhouse.errors" 194 104
noncomputable abbrev k107 (P : PySem.Params) : Obj := { cls := .type "dict", data := .dict #[ke P "__module__" 296 (.str "drawhouse.errors" 194), ke P "__firstlineno__" 300 (.int 22 299), ke P "__init__" 308 (.ref 105), ke P "__static_attributes__" 310 (.ref 106), ke P "__doc__" 311 .none] 2 }
noncomputable abbrev k108 : Obj := { cls := .type "type", data := .cls { name := "Clash", bases := [.ref 31], mro := [.ref 108, .ref 31, .type "ValueError", .type "Exception", .type "BaseException", .type "object"], ns := 107, qualname := "Clash" }, slots := #[some (.ref 92), none, some (.str "Clash" 289), some (.str "Clash" 297), some (.builtin "ValueError.__new__"), some (.bool true)] }
noncomputable abbrev k123 : Obj := kc "__init__" "NoPart.__init__" 326 327 328 29 2 3 118 true 181 119 .none (.ref 120) (.ref 121) 122 331 332
noncomputable abbrev k124 : Obj := kf ((Mine.aC (Mine.top 7)).getD 0 (.Pass ⟨0, 0, 0, 0⟩)) "__init__" "NoPart.__init__" "drawhouse.errors" 194 123
noncomputable abbrev k126 (P : PySem.Params) : Obj := { cls := .type "dict", data := .dict #[ke P "__module__" 321 (.str "drawhouse.errors" 194), ke P "__firstlineno__" 325 (.int 27 324), ke P "__init__" 333 (.ref 124), ke P "__static_attributes__" 335 (.ref 125), ke P "__doc__" 336 .none] 2 }
noncomputable abbrev k127 : Obj := { cls := .type "type", data := .cls { name := "NoPart", bases := [.ref 31], mro := [.ref 127, .ref 31, .type "ValueError", .type "Exception", .type "BaseException", .type "object"], ns := 126, qualname := "NoPart" }, slots := #[some (.ref 111), none, some (.str "NoPart" 314), some (.str "NoPart" 322), some (.builtin "ValueError.__new__"), some (.bool true)] }
noncomputable abbrev k133 : Obj := kc "prefixes" "prefixes" 341 342 343 33 1 3 130 true 181 131 .none .none .none 132 344 345
noncomputable abbrev k134 : Obj := kf (Mine.top 9) "prefixes" "prefixes" "drawhouse.words" 339 133
noncomputable abbrev k140 : Obj := kc "parent_of" "parent_of" 347 348 349 36 1 3 135 true 181 136 .none (.ref 137) (.ref 138) 139 351 352
noncomputable abbrev k141 : Obj := kf (Mine.top 10) "parent_of" "parent_of" "drawhouse.words" 339 140
noncomputable abbrev k154 : Obj := kc "binds" "Row.binds" 368 369 370 41 1 3 149 true 181 150 .none (.ref 151) (.ref 152) 153 372 373
noncomputable abbrev k155 : Obj := kf ((Mine.aC (Mine.top 12)).getD 0 (.Pass ⟨0, 0, 0, 0⟩)) "binds" "Row.binds" "drawhouse.rows" 354 154
noncomputable abbrev k161 : Obj := kc "asked" "Row.asked" 375 376 377 44 1 3 156 true 181 157 .none (.ref 158) (.ref 159) 160 379 380
noncomputable abbrev k162 : Obj := kf ((Mine.aC (Mine.top 12)).getD 1 (.Pass ⟨0, 0, 0, 0⟩)) "asked" "Row.asked" "drawhouse.rows" 354 161
noncomputable abbrev k168 : Obj := kc "said" "Row.said" 382 383 384 47 1 3 163 true 181 164 .none (.ref 165) (.ref 166) 167 386 387
noncomputable abbrev k169 : Obj := kf ((Mine.aC (Mine.top 12)).getD 2 (.Pass ⟨0, 0, 0, 0⟩)) "said" "Row.said" "drawhouse.rows" 354 168
noncomputable abbrev k171 (P : PySem.Params) : Obj := { cls := .type "dict", data := .dict #[ke P "__module__" 363 (.str "drawhouse.rows" 354), ke P "__firstlineno__" 367 (.int 39 366), ke P "binds" 374 (.ref 155), ke P "asked" 381 (.ref 162), ke P "said" 388 (.ref 169), ke P "__static_attributes__" 389 (.ref 170), ke P "__dict__" 391 (.ref 173), ke P "__weakref__" 393 (.ref 174), ke P "__doc__" 394 .none] 4 }
noncomputable abbrev k172 : Obj := { cls := .type "type", data := .cls { name := "Row", bases := [.type "object"], mro := [.ref 172, .type "object"], ns := 171, qualname := "Row", subclasses := [.ref 207, .ref 240, .ref 280, .ref 320, .ref 360, .ref 386] }, slots := #[none, none, some (.str "Row" 356), some (.str "Row" 364), some (.builtin "object.__new__"), some (.bool true)] }
noncomputable abbrev k173 : Obj := { cls := .type "getset_descriptor", data := .fields #[.str "__dict__" 390, .ref 172, .builtin "function.__dict__", .builtin "function.__dict__#set"] }
noncomputable abbrev k174 : Obj := { cls := .type "getset_descriptor", data := .fields #[.str "__weakref__" 392, .ref 172, .builtin "ExceptionGroup.__weakref__", .none] }
noncomputable abbrev k189 : Obj := kc "__init__" "Let.__init__" 409 410 411 51 3 3 184 true 181 185 .none (.ref 186) (.ref 187) 188 415 416
noncomputable abbrev k190 : Obj := kf ((Mine.aC (Mine.top 13)).getD 0 (.Pass ⟨0, 0, 0, 0⟩)) "__init__" "Let.__init__" "drawhouse.rows" 354 189
noncomputable abbrev k196 : Obj := kc "binds" "Let.binds" 418 419 420 55 1 3 191 true 181 192 .none (.ref 193) (.ref 194) 195 422 423
noncomputable abbrev k197 : Obj := kf ((Mine.aC (Mine.top 13)).getD 1 (.Pass ⟨0, 0, 0, 0⟩)) "binds" "Let.binds" "drawhouse.rows" 354 196
noncomputable abbrev k203 : Obj := kc "said" "Let.said" 425 426 427 58 1 3 198 true 181 199 .none (.ref 200) (.ref 201) 202 429 430
noncomputable abbrev k204 : Obj := kf ((Mine.aC (Mine.top 13)).getD 2 (.Pass ⟨0, 0, 0, 0⟩)) "said" "Let.said" "drawhouse.rows" 354 203
noncomputable abbrev k206 (P : PySem.Params) : Obj := { cls := .type "dict", data := .dict #[ke P "__module__" 404 (.str "drawhouse.rows" 354), ke P "__firstlineno__" 408 (.int 49 407), ke P "__init__" 417 (.ref 190), ke P "binds" 424 (.ref 197), ke P "said" 431 (.ref 204), ke P "__static_attributes__" 434 (.ref 205), ke P "__doc__" 435 .none] 2 }
noncomputable abbrev k207 : Obj := { cls := .type "type", data := .cls { name := "Let", bases := [.ref 172], mro := [.ref 207, .ref 172, .type "object"], ns := 206, qualname := "Let" }, slots := #[some (.ref 177), none, some (.str "Let" 397), some (.str "Let" 405), some (.builtin "object.__new__"), some (.bool true)] }
noncomputable abbrev k222 : Obj := kc "__init__" "Deed.__init__" 450 451 452 62 3 3 217 true 181 218 .none (.ref 219) (.ref 220) 221 456 457
noncomputable abbrev k223 : Obj := kf ((Mine.aC (Mine.top 14)).getD 0 (.Pass ⟨0, 0, 0, 0⟩)) "__init__" "Deed.__init__" "drawhouse.rows" 354 222
noncomputable abbrev k229 : Obj := kc "binds" "Deed.binds" 459 460 461 66 1 3 224 true 181 225 .none (.ref 226) (.ref 227) 228 463 464
noncomputable abbrev k230 : Obj := kf ((Mine.aC (Mine.top 14)).getD 1 (.Pass ⟨0, 0, 0, 0⟩)) "binds" "Deed.binds" "drawhouse.rows" 354 229
noncomputable abbrev k236 : Obj := kc "said" "Deed.said" 466 467 468 69 1 3 231 true 181 232 .none (.ref 233) (.ref 234) 235 470 471
noncomputable abbrev k237 : Obj := kf ((Mine.aC (Mine.top 14)).getD 2 (.Pass ⟨0, 0, 0, 0⟩)) "said" "Deed.said" "drawhouse.rows" 354 236
noncomputable abbrev k239 (P : PySem.Params) : Obj := { cls := .type "dict", data := .dict #[ke P "__module__" 445 (.str "drawhouse.rows" 354), ke P "__firstlineno__" 449 (.int 60 448), ke P "__init__" 458 (.ref 223), ke P "binds" 465 (.ref 230), ke P "said" 472 (.ref 237), ke P "__static_attributes__" 475 (.ref 238), ke P "__doc__" 476 .none] 2 }
noncomputable abbrev k240 : Obj := { cls := .type "type", data := .cls { name := "Deed", bases := [.ref 172], mro := [.ref 240, .ref 172, .type "object"], ns := 239, qualname := "Deed" }, slots := #[some (.ref 210), none, some (.str "Deed" 438), some (.str "Deed" 446), some (.builtin "object.__new__"), some (.bool true)] }
noncomputable abbrev k255 : Obj := kc "__init__" "Draw.__init__" 491 492 493 73 3 3 250 true 181 251 .none (.ref 252) (.ref 253) 254 497 498
noncomputable abbrev k256 : Obj := kf ((Mine.aC (Mine.top 15)).getD 0 (.Pass ⟨0, 0, 0, 0⟩)) "__init__" "Draw.__init__" "drawhouse.rows" 354 255
noncomputable abbrev k262 : Obj := kc "binds" "Draw.binds" 500 501 502 77 1 3 257 true 181 258 .none (.ref 259) (.ref 260) 261 504 505
noncomputable abbrev k263 : Obj := kf ((Mine.aC (Mine.top 15)).getD 1 (.Pass ⟨0, 0, 0, 0⟩)) "binds" "Draw.binds" "drawhouse.rows" 354 262
noncomputable abbrev k269 : Obj := kc "asked" "Draw.asked" 507 508 509 80 1 3 264 true 181 265 .none (.ref 266) (.ref 267) 268 511 512
noncomputable abbrev k270 : Obj := kf ((Mine.aC (Mine.top 15)).getD 2 (.Pass ⟨0, 0, 0, 0⟩)) "asked" "Draw.asked" "drawhouse.rows" 354 269
noncomputable abbrev k276 : Obj := kc "said" "Draw.said" 514 515 516 83 1 3 271 true 181 272 .none (.ref 273) (.ref 274) 275 518 519
noncomputable abbrev k277 : Obj := kf ((Mine.aC (Mine.top 15)).getD 3 (.Pass ⟨0, 0, 0, 0⟩)) "said" "Draw.said" "drawhouse.rows" 354 276
noncomputable abbrev k279 (P : PySem.Params) : Obj := { cls := .type "dict", data := .dict #[ke P "__module__" 486 (.str "drawhouse.rows" 354), ke P "__firstlineno__" 490 (.int 71 489), ke P "__init__" 499 (.ref 256), ke P "binds" 506 (.ref 263), ke P "asked" 513 (.ref 270), ke P "said" 520 (.ref 277), ke P "__static_attributes__" 523 (.ref 278), ke P "__doc__" 524 .none] 2 }
noncomputable abbrev k280 : Obj := { cls := .type "type", data := .cls { name := "Draw", bases := [.ref 172], mro := [.ref 280, .ref 172, .type "object"], ns := 279, qualname := "Draw" }, slots := #[some (.ref 243), none, some (.str "Draw" 479), some (.str "Draw" 487), some (.builtin "object.__new__"), some (.bool true)] }
noncomputable abbrev k295 : Obj := kc "__init__" "Late.__init__" 539 540 541 87 3 3 290 true 181 291 .none (.ref 292) (.ref 293) 294 545 546
noncomputable abbrev k296 : Obj := kf ((Mine.aC (Mine.top 16)).getD 0 (.Pass ⟨0, 0, 0, 0⟩)) "__init__" "Late.__init__" "drawhouse.rows" 354 295
noncomputable abbrev k302 : Obj := kc "binds" "Late.binds" 548 549 550 91 1 3 297 true 181 298 .none (.ref 299) (.ref 300) 301 552 553
noncomputable abbrev k303 : Obj := kf ((Mine.aC (Mine.top 16)).getD 1 (.Pass ⟨0, 0, 0, 0⟩)) "binds" "Late.binds" "drawhouse.rows" 354 302
noncomputable abbrev k309 : Obj := kc "asked" "Late.asked" 555 556 557 94 1 3 304 true 181 305 .none (.ref 306) (.ref 307) 308 559 560
noncomputable abbrev k310 : Obj := kf ((Mine.aC (Mine.top 16)).getD 2 (.Pass ⟨0, 0, 0, 0⟩)) "asked" "Late.asked" "drawhouse.rows" 354 309
noncomputable abbrev k316 : Obj := kc "said" "Late.said" 562 563 564 97 1 3 311 true 181 312 .none (.ref 313) (.ref 314) 315 566 567
noncomputable abbrev k317 : Obj := kf ((Mine.aC (Mine.top 16)).getD 3 (.Pass ⟨0, 0, 0, 0⟩)) "said" "Late.said" "drawhouse.rows" 354 316
noncomputable abbrev k319 (P : PySem.Params) : Obj := { cls := .type "dict", data := .dict #[ke P "__module__" 534 (.str "drawhouse.rows" 354), ke P "__firstlineno__" 538 (.int 85 537), ke P "__init__" 547 (.ref 296), ke P "binds" 554 (.ref 303), ke P "asked" 561 (.ref 310), ke P "said" 568 (.ref 317), ke P "__static_attributes__" 571 (.ref 318), ke P "__doc__" 572 .none] 2 }
noncomputable abbrev k320 : Obj := { cls := .type "type", data := .cls { name := "Late", bases := [.ref 172], mro := [.ref 320, .ref 172, .type "object"], ns := 319, qualname := "Late" }, slots := #[some (.ref 283), none, some (.str "Late" 527), some (.str "Late" 535), some (.builtin "object.__new__"), some (.bool true)] }
noncomputable abbrev k335 : Obj := kc "__init__" "Take.__init__" 587 588 589 101 4 3 330 true 181 331 .none (.ref 332) (.ref 333) 334 594 595
noncomputable abbrev k336 : Obj := kf ((Mine.aC (Mine.top 17)).getD 0 (.Pass ⟨0, 0, 0, 0⟩)) "__init__" "Take.__init__" "drawhouse.rows" 354 335
noncomputable abbrev k342 : Obj := kc "binds" "Take.binds" 597 598 599 106 1 3 337 true 181 338 .none (.ref 339) (.ref 340) 341 601 602
noncomputable abbrev k343 : Obj := kf ((Mine.aC (Mine.top 17)).getD 1 (.Pass ⟨0, 0, 0, 0⟩)) "binds" "Take.binds" "drawhouse.rows" 354 342
noncomputable abbrev k349 : Obj := kc "asked" "Take.asked" 604 605 606 109 1 3 344 true 181 345 .none (.ref 346) (.ref 347) 348 608 609
noncomputable abbrev k350 : Obj := kf ((Mine.aC (Mine.top 17)).getD 2 (.Pass ⟨0, 0, 0, 0⟩)) "asked" "Take.asked" "drawhouse.rows" 354 349
noncomputable abbrev k356 : Obj := kc "said" "Take.said" 611 612 613 112 1 3 351 true 181 352 .none (.ref 353) (.ref 354) 355 615 616
noncomputable abbrev k357 : Obj := kf ((Mine.aC (Mine.top 17)).getD 3 (.Pass ⟨0, 0, 0, 0⟩)) "said" "Take.said" "drawhouse.rows" 354 356
noncomputable abbrev k359 (P : PySem.Params) : Obj := { cls := .type "dict", data := .dict #[ke P "__module__" 582 (.str "drawhouse.rows" 354), ke P "__firstlineno__" 586 (.int 99 585), ke P "__init__" 596 (.ref 336), ke P "binds" 603 (.ref 343), ke P "asked" 610 (.ref 350), ke P "said" 617 (.ref 357), ke P "__static_attributes__" 621 (.ref 358), ke P "__doc__" 622 .none] 2 }
noncomputable abbrev k360 : Obj := { cls := .type "type", data := .cls { name := "Take", bases := [.ref 172], mro := [.ref 360, .ref 172, .type "object"], ns := 359, qualname := "Take" }, slots := #[some (.ref 323), none, some (.str "Take" 575), some (.str "Take" 583), some (.builtin "object.__new__"), some (.bool true)] }
noncomputable abbrev k375 : Obj := kc "__init__" "Need.__init__" 637 638 639 116 2 3 370 true 181 371 .none (.ref 372) (.ref 373) 374 642 643
noncomputable abbrev k376 : Obj := kf ((Mine.aC (Mine.top 18)).getD 0 (.Pass ⟨0, 0, 0, 0⟩)) "__init__" "Need.__init__" "drawhouse.rows" 354 375
noncomputable abbrev k382 : Obj := kc "said" "Need.said" 645 646 647 119 1 3 377 true 181 378 .none (.ref 379) (.ref 380) 381 649 650
noncomputable abbrev k383 : Obj := kf ((Mine.aC (Mine.top 18)).getD 1 (.Pass ⟨0, 0, 0, 0⟩)) "said" "Need.said" "drawhouse.rows" 354 382
noncomputable abbrev k385 (P : PySem.Params) : Obj := { cls := .type "dict", data := .dict #[ke P "__module__" 632 (.str "drawhouse.rows" 354), ke P "__firstlineno__" 636 (.int 114 635), ke P "__init__" 644 (.ref 376), ke P "said" 651 (.ref 383), ke P "__static_attributes__" 653 (.ref 384), ke P "__doc__" 654 .none] 2 }
noncomputable abbrev k386 : Obj := { cls := .type "type", data := .cls { name := "Need", bases := [.ref 172], mro := [.ref 386, .ref 172, .type "object"], ns := 385, qualname := "Need" }, slots := #[some (.ref 363), none, some (.str "Need" 625), some (.str "Need" 633), some (.builtin "object.__new__"), some (.bool true)] }
noncomputable abbrev k394 : Obj := kc "named_by" "named_by" 659 660 661 122 1 3 389 true 181 390 .none (.ref 391) (.ref 392) 393 665 666
noncomputable abbrev k395 : Obj := kf (Mine.top 20) "named_by" "named_by" "drawhouse.links" 657 394
noncomputable abbrev k399 : Obj := kc "links" "links" 668 669 670 129 2 3 396 true 181 397 .none .none .none 398 671 672
noncomputable abbrev k400 : Obj := kf (Mine.top 21) "links" "links" "drawhouse.links" 657 399
noncomputable abbrev k406 : Obj := kc "all_links" "all_links" 674 675 676 135 1 3 401 true 181 402 .none (.ref 403) (.ref 404) 405 680 681
noncomputable abbrev k407 : Obj := kf (Mine.top 22) "all_links" "all_links" "drawhouse.links" 657 406
noncomputable abbrev k413 : Obj := kc "reached" "reached" 683 684 685 140 2 3 408 true 181 409 .none (.ref 410) (.ref 411) 412 691 692
noncomputable abbrev k414 : Obj := kf (Mine.top 23) "reached" "reached" "drawhouse.links" 657 413
noncomputable abbrev k420 : Obj := kc "check_part" "check_part" 694 695 696 149 2 3 415 true 181 416 .none (.ref 417) (.ref 418) 419 699 700
noncomputable abbrev k421 : Obj := kf (Mine.top 24) "check_part" "check_part" "drawhouse.links" 657 420
noncomputable abbrev k427 : Obj := kc "leads" "leads" 702 703 704 152 2 3 422 true 181 423 .none (.ref 424) (.ref 425) 426 707 708
noncomputable abbrev k428 : Obj := kf (Mine.top 25) "leads" "leads" "drawhouse.links" 657 427
noncomputable abbrev k434 : Obj := kc "way_between" "way_between" 710 711 712 155 3 3 429 true 181 430 .none (.ref 431) (.ref 432) 433 721 722
noncomputable abbrev k435 : Obj := kf (Mine.top 26) "way_between" "way_between" "drawhouse.links" 657 434
noncomputable abbrev k441 : Obj := kc "is_orphan" "is_orphan" 728 729 730 172 2 3 436 true 181 437 .none (.ref 438) (.ref 439) 440 734 735
noncomputable abbrev k442 : Obj := kf (Mine.top 29) "is_orphan" "is_orphan" "drawhouse.house" 724 441
noncomputable abbrev k446 : Obj := kc "is_clash" "is_clash" 737 738 739 175 2 3 443 true 181 444 .none .none .none 445 740 741
noncomputable abbrev k447 : Obj := kf (Mine.top 30) "is_clash" "is_clash" "drawhouse.house" 724 446
noncomputable abbrev k451 : Obj := kc "check_parts" "check_parts" 743 744 745 177 1 3 448 true 181 449 .none .none .none 450 746 747
noncomputable abbrev k452 : Obj := kf (Mine.top 31) "check_parts" "check_parts" "drawhouse.house" 724 451
noncomputable abbrev k465 : Obj := kc "__init__" "House.__init__" 761 762 763 190 2 3 460 true 181 461 .none (.ref 462) (.ref 463) 464 766 767
noncomputable abbrev k466 : Obj := kf ((Mine.aC (Mine.top 32)).getD 0 (.Pass ⟨0, 0, 0, 0⟩)) "__init__" "House.__init__" "drawhouse.house" 724 465
noncomputable abbrev k470 : Obj := kc "addresses" "House.addresses" 769 770 771 194 1 3 467 true 181 468 .none .none .none 469 772 773
noncomputable abbrev k471 : Obj := kf ((Mine.aC (Mine.top 32)).getD 1 (.Pass ⟨0, 0, 0, 0⟩)) "addresses" "House.addresses" "drawhouse.house" 724 470
noncomputable abbrev k475 : Obj := kc "has" "House.has" 775 776 777 197 2 3 472 true 181 473 .none .none .none 474 778 779
noncomputable abbrev k476 : Obj := kf ((Mine.aC (Mine.top 32)).getD 2 (.Pass ⟨0, 0, 0, 0⟩)) "has" "House.has" "drawhouse.house" 724 475
noncomputable abbrev k482 : Obj := kc "part" "House.part" 781 782 783 200 2 3 477 true 181 478 .none (.ref 479) (.ref 480) 481 787 788
noncomputable abbrev k483 : Obj := kf ((Mine.aC (Mine.top 32)).getD 3 (.Pass ⟨0, 0, 0, 0⟩)) "part" "House.part" "drawhouse.house" 724 482
noncomputable abbrev k489 : Obj := kc "with_part" "House.with_part" 790 791 792 206 2 3 484 true 181 485 .none (.ref 486) (.ref 487) 488 795 796
noncomputable abbrev k490 : Obj := kf ((Mine.aC (Mine.top 32)).getD 4 (.Pass ⟨0, 0, 0, 0⟩)) "with_part" "House.with_part" "drawhouse.house" 724 489
noncomputable abbrev k496 : Obj := kc "without" "House.without" 798 799 800 209 2 3 491 true 181 492 .none (.ref 493) (.ref 494) 495 803 804
noncomputable abbrev k497 : Obj := kf ((Mine.aC (Mine.top 32)).getD 5 (.Pass ⟨0, 0, 0, 0⟩)) "without" "House.without" "drawhouse.house" 724 496
noncomputable abbrev k499 (P : PySem.Params) : Obj := { cls := .type "dict", data := .dict #[ke P "__module__" 756 (.str "drawhouse.house" 724), ke P "__firstlineno__" 760 (.int 188 759), ke P "__init__" 768 (.ref 466), ke P "addresses" 774 (.ref 471), ke P "has" 780 (.ref 476), ke P "part" 789 (.ref 483), ke P "with_part" 797 (.ref 490), ke P "without" 805 (.ref 497), ke P "__static_attributes__" 807 (.ref 498), ke P "__dict__" 809 (.ref 501), ke P "__weakref__" 811 (.ref 502), ke P "__doc__" 812 .none] 4 }
noncomputable abbrev k500 : Obj := { cls := .type "type", data := .cls { name := "House", bases := [.type "object"], mro := [.ref 500, .type "object"], ns := 499, qualname := "House" }, slots := #[none, none, some (.str "House" 749), some (.str "House" 757), some (.builtin "object.__new__"), some (.bool true)] }
noncomputable abbrev k501 : Obj := { cls := .type "getset_descriptor", data := .fields #[.str "__dict__" 808, .ref 500, .builtin "function.__dict__", .builtin "function.__dict__#set"] }
noncomputable abbrev k502 : Obj := { cls := .type "getset_descriptor", data := .fields #[.str "__weakref__" 810, .ref 500, .builtin "ExceptionGroup.__weakref__", .none] }
noncomputable abbrev k517 : Obj := kc "__init__" "Part.__init__" 829 830 831 214 3 3 512 true 181 513 .none (.ref 514) (.ref 515) 516 835 836
noncomputable abbrev k518 : Obj := kf ((Mine.aC (Mine.top 34)).getD 0 (.Pass ⟨0, 0, 0, 0⟩)) "__init__" "Part.__init__" "drawhouse.parts" 815 517
noncomputable abbrev k522 : Obj := kc "bound" "Part.bound" 838 839 840 218 1 3 519 true 181 520 .none .none .none 521 841 842
noncomputable abbrev k523 : Obj := kf ((Mine.aC (Mine.top 34)).getD 1 (.Pass ⟨0, 0, 0, 0⟩)) "bound" "Part.bound" "drawhouse.parts" 815 522
noncomputable abbrev k529 : Obj := kc "place_of" "Part.place_of" 844 845 846 222 2 3 524 true 181 525 .none (.ref 526) (.ref 527) 528 849 850
noncomputable abbrev k530 : Obj := kf ((Mine.aC (Mine.top 34)).getD 2 (.Pass ⟨0, 0, 0, 0⟩)) "place_of" "Part.place_of" "drawhouse.parts" 815 529
noncomputable abbrev k536 : Obj := kc "text" "Part.text" 852 853 854 225 1 3 531 true 181 532 .none (.ref 533) (.ref 534) 535 856 857
noncomputable abbrev k537 : Obj := kf ((Mine.aC (Mine.top 34)).getD 3 (.Pass ⟨0, 0, 0, 0⟩)) "text" "Part.text" "drawhouse.parts" 815 536
noncomputable abbrev k539 (P : PySem.Params) : Obj := { cls := .type "dict", data := .dict #[ke P "__module__" 824 (.str "drawhouse.parts" 815), ke P "__firstlineno__" 828 (.int 212 827), ke P "__init__" 837 (.ref 518), ke P "bound" 843 (.ref 523), ke P "place_of" 851 (.ref 530), ke P "text" 858 (.ref 537), ke P "__static_attributes__" 861 (.ref 538), ke P "__dict__" 863 (.ref 541), ke P "__weakref__" 865 (.ref 542), ke P "__doc__" 866 .none] 4 }
noncomputable abbrev k540 : Obj := { cls := .type "type", data := .cls { name := "Part", bases := [.type "object"], mro := [.ref 540, .type "object"], ns := 539, qualname := "Part" }, slots := #[none, none, some (.str "Part" 817), some (.str "Part" 825), some (.builtin "object.__new__"), some (.bool true)] }
noncomputable abbrev k541 : Obj := { cls := .type "getset_descriptor", data := .fields #[.str "__dict__" 862, .ref 540, .builtin "function.__dict__", .builtin "function.__dict__#set"] }
noncomputable abbrev k542 : Obj := { cls := .type "getset_descriptor", data := .fields #[.str "__weakref__" 864, .ref 540, .builtin "ExceptionGroup.__weakref__", .none] }
noncomputable abbrev k550 : Obj := kc "_law_cell" "_law_cell" 871 872 873 228 2 3 545 true 181 546 .none (.ref 547) (.ref 548) 549 876 877
noncomputable abbrev k551 : Obj := kf (Mine.top 36) "_law_cell" "_law_cell" "law_drawhouse_k34_leads_and_ways" 869 550
noncomputable abbrev k557 : Obj := kc "_law_pick" "_law_pick" 879 880 881 232 3 3 552 true 181 553 .none (.ref 554) (.ref 555) 556 888 889
noncomputable abbrev k558 : Obj := kf (Mine.top 37) "_law_pick" "_law_pick" "law_drawhouse_k34_leads_and_ways" 869 557
noncomputable abbrev k562 : Obj := kc "_law_words" "_law_words" 891 892 893 241 1 3 559 true 181 560 .none .none .none 561 894 895
noncomputable abbrev k563 : Obj := kf (Mine.top 38) "_law_words" "_law_words" "law_drawhouse_k34_leads_and_ways" 869 562
noncomputable abbrev k567 : Obj := kc "_law_addresses" "_law_addresses" 897 898 899 254 3 3 564 true 181 565 .none .none .none 566 900 901
noncomputable abbrev k568 : Obj := kf (Mine.top 39) "_law_addresses" "_law_addresses" "law_drawhouse_k34_leads_and_ways" 869 567
noncomputable abbrev k572 : Obj := kc "_law_prefixes" "_law_prefixes" 903 904 905 267 1 3 569 true 181 570 .none .none .none 571 906 907
noncomputable abbrev k573 : Obj := kf (Mine.top 40) "_law_prefixes" "_law_prefixes" "law_drawhouse_k34_leads_and_ways" 869 572
noncomputable abbrev k579 : Obj := kc "_law_asked" "_law_asked" 909 910 911 270 3 3 574 true 181 575 .none (.ref 576) (.ref 577) 578 917 918
noncomputable abbrev k580 : Obj := kf (Mine.top 41) "_law_asked" "_law_asked" "law_drawhouse_k34_leads_and_ways" 869 579
noncomputable abbrev k584 : Obj := kc "_law_drawn" "_law_drawn" 920 921 922 278 4 3 581 true 181 582 .none .none .none 583 923 924
noncomputable abbrev k585 : Obj := kf (Mine.top 42) "_law_drawn" "_law_drawn" "law_drawhouse_k34_leads_and_ways" 869 584
noncomputable abbrev k589 : Obj := kc "_law_rows" "_law_rows" 926 927 928 291 3 3 586 true 181 587 .none .none .none 588 929 930
noncomputable abbrev k590 : Obj := kf (Mine.top 43) "_law_rows" "_law_rows" "law_drawhouse_k34_leads_and_ways" 869 589
noncomputable abbrev k596 : Obj := kc "_law_row" "_law_row" 932 933 934 303 1 3 591 true 181 592 .none (.ref 593) (.ref 594) 595 941 942
noncomputable abbrev k597 : Obj := kf (Mine.top 44) "_law_row" "_law_row" "law_drawhouse_k34_leads_and_ways" 869 596
noncomputable abbrev k601 : Obj := kc "_law_parts" "_law_parts" 944 945 946 319 2 3 598 true 181 599 .none .none .none 600 947 948
noncomputable abbrev k602 : Obj := kf (Mine.top 45) "_law_parts" "_law_parts" "law_drawhouse_k34_leads_and_ways" 869 601
noncomputable abbrev k608 : Obj := kc "_law_made" "_law_made" 950 951 952 321 1 3 603 true 181 604 .none (.ref 605) (.ref 606) 607 957 958
noncomputable abbrev k609 : Obj := kf (Mine.top 46) "_law_made" "_law_made" "law_drawhouse_k34_leads_and_ways" 869 608
noncomputable abbrev k613 : Obj := kc "_law_links" "_law_links" 960 961 962 328 3 3 610 true 181 611 .none .none .none 612 963 964
noncomputable abbrev k614 : Obj := kf (Mine.top 47) "_law_links" "_law_links" "law_drawhouse_k34_leads_and_ways" 869 613
noncomputable abbrev k618 : Obj := kc "_law_behind" "_law_behind" 966 967 968 336 2 3 615 true 181 616 .none .none .none 617 969 970
noncomputable abbrev k619 : Obj := kf (Mine.top 48) "_law_behind" "_law_behind" "law_drawhouse_k34_leads_and_ways" 869 618
noncomputable abbrev k625 : Obj := kc "_law_walked" "_law_walked" 972 973 974 349 5 3 620 true 181 621 .none (.ref 622) (.ref 623) 624 981 982
noncomputable abbrev k626 : Obj := kf (Mine.top 49) "_law_walked" "_law_walked" "law_drawhouse_k34_leads_and_ways" 869 625
noncomputable abbrev k632 : Obj := kc "_law_none" "_law_none" 984 985 986 358 4 3 627 true 181 628 .none (.ref 629) (.ref 630) 631 992 993
noncomputable abbrev k633 : Obj := kf (Mine.top 50) "_law_none" "_law_none" "law_drawhouse_k34_leads_and_ways" 869 632
noncomputable abbrev k637 : Obj := kc "_law_long" "_law_long" 995 996 997 364 2 3 634 true 181 635 .none .none .none 636 998 999
noncomputable abbrev k638 : Obj := kf (Mine.top 51) "_law_long" "_law_long" "law_drawhouse_k34_leads_and_ways" 869 637
noncomputable abbrev k644 : Obj := kc "_law_right" "_law_right" 1001 1002 1003 374 3 3 639 true 181 640 .none (.ref 641) (.ref 642) 643 1012 1013
noncomputable abbrev k645 : Obj := kf (Mine.top 52) "_law_right" "_law_right" "law_drawhouse_k34_leads_and_ways" 869 644
noncomputable abbrev k649 : Obj := kc "law" "law" 1015 1016 1017 393 1 3 646 true 181 647 .none .none .none 648 1018 1019
noncomputable abbrev k650 : Obj := kf (Mine.top 53) "law" "law" "law_drawhouse_k34_leads_and_ways" 869 649
open PySem in
noncomputable def myK : PySem.Params → PySem.W.Frag := fun P =>
 (nat_lit 2, { cls := Value.none, data := Data.dict #[] }) ::
 (nat_lit 3, { cls := .type "dict", data := .dict #[ke P "__name__" 165 (.str "law_drawhouse_k34_leads_and_ways" 869), ke P "__doc__" 166 .none, ke P "__package__" 167 .none, ke P "__loader__" 168 (.builtin "__main__.__loader__#opaque"), ke P "__spec__" 169 .none, ke P "__annotations__" 170 (.ref 6), ke P "__builtins__" 171 (.ref 4), ke P "__file__" 173 (.str "/claim/cut.py" 172), ke P "__cached__" 174 .none, ke P "_wall" 193 (.ref 21), ke P "HouseError" 213 (.ref 31), ke P "TooMany" 238 (.ref 51), ke P "Double" 263 (.ref 70), ke P "Orphan" 288 (.ref 89), ke P "Clash" 313 (.ref 108), ke P "NoPart" 338 (.ref 127), ke P "prefixes" 346 (.ref 134), ke P "parent_of" 353 (.ref 141), ke P "Row" 396 (.ref 172), ke P "Let" 437 (.ref 207), ke P "Deed" 478 (.ref 240), ke P "Draw" 526 (.ref 280), ke P "Late" 574 (.ref 320), ke P "Take" 624 (.ref 360), ke P "Need" 656 (.ref 386), ke P "named_by" 667 (.ref 395), ke P "links" 673 (.ref 400), ke P "all_links" 682 (.ref 407), ke P "reached" 693 (.ref 414), ke P "check_part" 701 (.ref 421), ke P "leads" 709 (.ref 428), ke P "way_between" 723 (.ref 435), ke P "MOST_PARTS" 727 (.int 12 726), ke P "is_orphan" 736 (.ref 442), ke P "is_clash" 742 (.ref 447), ke P "check_parts" 748 (.ref 452), ke P "House" 814 (.ref 500), ke P "Part" 868 (.ref 540), ke P "_law_cell" 878 (.ref 551), ke P "_law_pick" 890 (.ref 558), ke P "_law_words" 896 (.ref 563), ke P "_law_addresses" 902 (.ref 568), ke P "_law_prefixes" 908 (.ref 573), ke P "_law_asked" 919 (.ref 580), ke P "_law_drawn" 925 (.ref 585), ke P "_law_rows" 931 (.ref 590), ke P "_law_row" 943 (.ref 597), ke P "_law_parts" 949 (.ref 602), ke P "_law_made" 959 (.ref 609), ke P "_law_links" 965 (.ref 614), ke P "_law_behind" 971 (.ref 619), ke P "_law_walked" 983 (.ref 626), ke P "_law_none" 994 (.ref 633), ke P "_law_long" 1000 (.ref 638), ke P "_law_right" 1014 (.ref 645), ke P "law" 1020 (.ref 650)] 56 }) ::
 (nat_lit 20, k20) ::
 (nat_lit 21, k21) ::
 (nat_lit 30, k30 P) ::
 (nat_lit 31, k31) ::
 (nat_lit 32, k32) ::
 (nat_lit 47, k47) ::
 (nat_lit 48, k48) ::
 (nat_lit 50, k50 P) ::
 (nat_lit 51, k51) ::
 (nat_lit 66, k66) ::
 (nat_lit 67, k67) ::
 (nat_lit 69, k69 P) ::
 (nat_lit 70, k70) ::
 (nat_lit 85, k85) ::
 (nat_lit 86, k86) ::
 (nat_lit 88, k88 P) ::
 (nat_lit 89, k89) ::
 (nat_lit 104, k104) ::
 (nat_lit 105, k105) ::
 (nat_lit 107, k107 P) ::
 (nat_lit 108, k108) ::
 (nat_lit 123, k123) ::
 (nat_lit 124, k124) ::
 (nat_lit 126, k126 P) ::
 (nat_lit 127, k127) ::
 (nat_lit 133, k133) ::
 (nat_lit 134, k134) ::
 (nat_lit 140, k140) ::
 (nat_lit 141, k141) ::
 (nat_lit 154, k154) ::
 (nat_lit 155, k155) ::
 (nat_lit 161, k161) ::
 (nat_lit 162, k162) ::
 (nat_lit 168, k168) ::
 (nat_lit 169, k169) ::
 (nat_lit 171, k171 P) ::
 (nat_lit 172, k172) ::
 (nat_lit 173, k173) ::
 (nat_lit 174, k174) ::
 (nat_lit 189, k189) ::
 (nat_lit 190, k190) ::
 (nat_lit 196, k196) ::
 (nat_lit 197, k197) ::
 (nat_lit 203, k203) ::
 (nat_lit 204, k204) ::
 (nat_lit 206, k206 P) ::
 (nat_lit 207, k207) ::
 (nat_lit 222, k222) ::
 (nat_lit 223, k223) ::
 (nat_lit 229, k229) ::
 (nat_lit 230, k230) ::
 (nat_lit 236, k236) ::
 (nat_lit 237, k237) ::
 (nat_lit 239, k239 P) ::
 (nat_lit 240, k240) ::
 (nat_lit 255, k255) ::
 (nat_lit 256, k256) ::
 (nat_lit 262, k262) ::
 (nat_lit 263, k263) ::
 (nat_lit 269, k269) ::
 (nat_lit 270, k270) ::
 (nat_lit 276, k276) ::
 (nat_lit 277, k277) ::
 (nat_lit 279, k279 P) ::
 (nat_lit 280, k280) ::
 (nat_lit 295, k295) ::
 (nat_lit 296, k296) ::
 (nat_lit 302, k302) ::
 (nat_lit 303, k303) ::
 (nat_lit 309, k309) ::
 (nat_lit 310, k310) ::
 (nat_lit 316, k316) ::
 (nat_lit 317, k317) ::
 (nat_lit 319, k319 P) ::
 (nat_lit 320, k320) ::
 (nat_lit 335, k335) ::
 (nat_lit 336, k336) ::
 (nat_lit 342, k342) ::
 (nat_lit 343, k343) ::
 (nat_lit 349, k349) ::
 (nat_lit 350, k350) ::
 (nat_lit 356, k356) ::
 (nat_lit 357, k357) ::
 (nat_lit 359, k359 P) ::
 (nat_lit 360, k360) ::
 (nat_lit 375, k375) ::
 (nat_lit 376, k376) ::
 (nat_lit 382, k382) ::
 (nat_lit 383, k383) ::
 (nat_lit 385, k385 P) ::
 (nat_lit 386, k386) ::
 (nat_lit 394, k394) ::
 (nat_lit 395, k395) ::
 (nat_lit 399, k399) ::
 (nat_lit 400, k400) ::
 (nat_lit 406, k406) ::
 (nat_lit 407, k407) ::
 (nat_lit 413, k413) ::
 (nat_lit 414, k414) ::
 (nat_lit 420, k420) ::
 (nat_lit 421, k421) ::
 (nat_lit 427, k427) ::
 (nat_lit 428, k428) ::
 (nat_lit 434, k434) ::
 (nat_lit 435, k435) ::
 (nat_lit 441, k441) ::
 (nat_lit 442, k442) ::
 (nat_lit 446, k446) ::
 (nat_lit 447, k447) ::
 (nat_lit 451, k451) ::
 (nat_lit 452, k452) ::
 (nat_lit 465, k465) ::
 (nat_lit 466, k466) ::
 (nat_lit 470, k470) ::
 (nat_lit 471, k471) ::
 (nat_lit 475, k475) ::
 (nat_lit 476, k476) ::
 (nat_lit 482, k482) ::
 (nat_lit 483, k483) ::
 (nat_lit 489, k489) ::
 (nat_lit 490, k490) ::
 (nat_lit 496, k496) ::
 (nat_lit 497, k497) ::
 (nat_lit 499, k499 P) ::
 (nat_lit 500, k500) ::
 (nat_lit 501, k501) ::
 (nat_lit 502, k502) ::
 (nat_lit 517, k517) ::
 (nat_lit 518, k518) ::
 (nat_lit 522, k522) ::
 (nat_lit 523, k523) ::
 (nat_lit 529, k529) ::
 (nat_lit 530, k530) ::
 (nat_lit 536, k536) ::
 (nat_lit 537, k537) ::
 (nat_lit 539, k539 P) ::
 (nat_lit 540, k540) ::
 (nat_lit 541, k541) ::
 (nat_lit 542, k542) ::
 (nat_lit 550, k550) ::
 (nat_lit 551, k551) ::
 (nat_lit 557, k557) ::
 (nat_lit 558, k558) ::
 (nat_lit 562, k562) ::
 (nat_lit 563, k563) ::
 (nat_lit 567, k567) ::
 (nat_lit 568, k568) ::
 (nat_lit 572, k572) ::
 (nat_lit 573, k573) ::
 (nat_lit 579, k579) ::
 (nat_lit 580, k580) ::
 (nat_lit 584, k584) ::
 (nat_lit 585, k585) ::
 (nat_lit 589, k589) ::
 (nat_lit 590, k590) ::
 (nat_lit 596, k596) ::
 (nat_lit 597, k597) ::
 (nat_lit 601, k601) ::
 (nat_lit 602, k602) ::
 (nat_lit 608, k608) ::
 (nat_lit 609, k609) ::
 (nat_lit 613, k613) ::
 (nat_lit 614, k614) ::
 (nat_lit 618, k618) ::
 (nat_lit 619, k619) ::
 (nat_lit 625, k625) ::
 (nat_lit 626, k626) ::
 (nat_lit 632, k632) ::
 (nat_lit 633, k633) ::
 (nat_lit 637, k637) ::
 (nat_lit 638, k638) ::
 (nat_lit 644, k644) ::
 (nat_lit 645, k645) ::
 (nat_lit 649, k649) ::
 (nat_lit 650, k650) ::
 []
end Mine
set_option maxHeartbeats 0
namespace Hd
open PySem PySem.W PySem.Calls PyProof.Rows
noncomputable def put (t : BT) : Nat → Obj → BT := BT.rec (motive := fun _ => Nat → Obj → BT) (fun _ o => .node o .nil .nil) (fun v l r x y i o => match i with | 0 => .node o l r | j + 1 => bif Nat.beq (j % 2) 0 then .node v (x (j / 2) o) r else .node v l (y (j / 2) o)) t
noncomputable def bG (t : BT) (l : List (Nat × Obj)) : BT := l.foldl (fun t p => put t p.1 p.2) t
noncomputable def en (P : Params) (x : Str) (t : Nat) (v : Value) : DictEntry := ⟨PyData.keyHash P x, .str x t, v⟩
noncomputable def fo (s : Stmt) (n q m : Str) (t c : Nat) : Obj := ⟨.type "function", none, .func { name := n, qualname := q, params := L2.cG s, body := .stmts (L2.bJ s), scope := L2.aD s, globals := 3, closure := [], defaults := .none, kwdefaults := .none, pyModule := .str m t, code := .ref c }, #[]⟩
noncomputable def pf (s : Stmt) (n q : Str) : Obj := ⟨.none, none, .func { name := n, qualname := q, params := L2.cG s, body := .stmts (L2.bJ s), scope := L2.aD s, globals := 0, closure := [], defaults := .none, kwdefaults := .none }, #[]⟩
noncomputable def tu (l : List Value) : Obj := ⟨.type "tuple", none, .seq l.toArray, #[]⟩
noncomputable def eT : Obj := tu []
noncomputable def eF : Obj := { cls := .none, data := .fields #[] }
noncomputable def co (n q : Str) (a b c : Nat) (l k : Int) (f r : Nat) (t : Bool) (g : Int) (u : Nat) (x y z : Value) (v : Nat) (m : Int) (e : Nat) : Obj := { cls := .type "code", data := .fields #[.str n a, .str q b, .str "/claim/cut.py" c, .int l 0, .int k 0, .int 0 0, .int 0 0, .int f 0, .ref r, .bool t, .int g 0, .ref u, x, y, z, .ref v, .int m 0, .int l 0, .str "/claim/cut.py" e] }
noncomputable def env : Env := { scope := PySem.Challenge.pw_drawhouse_k34_leads_and_ways.main.scope, locals := mainNs, globals := mainNs, cells := [], code := Value.ref 13, frame := some 14 }
noncomputable def cE : Code := .body (behindTheImports PySem.Challenge.pw_drawhouse_k34_leads_and_ways) env
noncomputable def fr : List Frame := [topFrame { line := 0, col := 0, endLine := 0, endCol := 0 }]
noncomputable def sl (a n : Nat) : List Stmt := ((behindTheImports PySem.Challenge.pw_drawhouse_k34_leads_and_ways).drop a).take n
noncomputable def o13 : Obj := { cls := .type "code", data := .fields #[.str "<module>" 182, .str "<module>" 183, .str "/claim/cut.py" 184, .int 1 0, .int 0 0, .int 0 0, .int 0 0, .int 0 0, .ref 11, .bool false, .int 181 0, .ref 12, .none, .none, .none, .none, .int 185 0, .int 1 0, .str "/claim/cut.py" 186] }
noncomputable def o14 : Obj := { cls := .type "frame", slots := #[some (.ref 13), some (.ref 3), some (.ref 3), none, some (.str "__main__" 164), none, some (.ref 0)] }
noncomputable def hA0 (P : Params) (r : List Obj) : List Obj := (boot_o_0 P) :: (boot_o_1 P) :: (boot_o_2 P) :: (boot_o_3 P) :: (boot_o_4 P) :: (boot_o_5 P) :: (boot_o_6 P) :: (boot_o_7 P) :: (boot_o_8 P) :: (boot_o_9 P) :: (boot_o_10 P) :: eT :: ({ cls := .none, data := .fields #[] }) :: o13 :: o14 :: r
noncomputable def hA (P : Params) : Heap := ⟨Array.mk (hA0 P ([])), { }⟩
noncomputable def Lp (w : World) (os : OsState) : Option (Shared × Thread) := topGo treeTable PySem.Challenge.pw_drawhouse_k34_leads_and_ways w 11 (some (Value.ref 6)) 12 ⟨boot_heap w.params, Array.mk [], boot_drawn, boot_toks, os⟩ (topStub PySem.Challenge.pw_drawhouse_k34_leads_and_ways)
noncomputable def Rp (w : World) (os : OsState) : Option (Shared × Thread) := some (⟨hA w.params, Array.mk [], { }, nat_lit 187, os⟩, ⟨denote treeTable cE, cE, { line := 0, col := 0, endLine := 0, endCol := 0 }, fr⟩)
theorem rLp : Lp = Lp := rfl
name_quick Lp for Hd.Lp by Hd.rLp
theorem rRp : Rp = Rp := rfl
name_quick Rp for Hd.Rp by Hd.rRp
theorem qp : PySem.W.Fast.Lp = PySem.W.Fast.Rp := by kernel_rfl
theorem ep : Lp = Rp := PySem.W.Fast.Lp_eq.trans (qp.trans PySem.W.Fast.Rp_eq.symm)
noncomputable def Ub (P : Params) : BT := bG .nil ((0, boot_o_0 P) :: (1, boot_o_1 P) :: (2, boot_o_2 P) :: (3, boot_o_3 P) :: (4, boot_o_4 P) :: (5, boot_o_5 P) :: (6, boot_o_6 P) :: (7, boot_o_7 P) :: (8, boot_o_8 P) :: (9, boot_o_9 P) :: (10, boot_o_10 P) :: (11, eT) :: [])
noncomputable def t0 (P : Params) : BT := bG (Ub P) ((12, { cls := .none, data := .fields #[] }) :: (13, o13) :: (14, o14) :: [])
noncomputable def Lb (w : World) (os : OsState) : Option (Flow × Shared × Code × Pos) := segRun treeTable PySem.Challenge.pw_drawhouse_k34_leads_and_ways w 11 (some (Value.ref 6)) 1 1 ⟨hA w.params, Array.mk [], { }, nat_lit 187, os⟩ (blockOf (behindTheImports PySem.Challenge.pw_drawhouse_k34_leads_and_ways) env cE { line := 0, col := 0, endLine := 0, endCol := 0 } fr)
noncomputable def Rb (w : World) (os : OsState) : Option (Flow × Shared × Code × Pos) := some (.next, SharedT.abs ⟨t0 w.params, nat_lit 15, { }, Array.mk [], { }, nat_lit 187, os⟩, cE, { line := 0, col := 0, endLine := 0, endCol := 0 })
theorem rLb : Lb = Lb := rfl
name_quick Lb for Hd.Lb by Hd.rLb
theorem rRb : Rb = Rb := rfl
name_quick Rb for Hd.Rb by Hd.rRb
theorem qb : PySem.W.Fast.Lb = PySem.W.Fast.Rb := by kernel_rfl
theorem eb : Lb = Rb := PySem.W.Fast.Lb_eq.trans (qb.trans PySem.W.Fast.Rb_eq.symm)
noncomputable def n0 (P : Params) (r : List DictEntry) : List DictEntry := en P "__name__" 165 (.str "drawhouse.rows" 354) :: en P "__doc__" 166 .none :: en P "__package__" 167 .none :: en P "__loader__" 168 (.builtin "__main__.__loader__#opaque") :: en P "__spec__" 169 .none :: en P "__annotations__" 170 (.ref 6) :: en P "__builtins__" 171 (.ref 4) :: en P "__file__" 173 (.str "/claim/cut.py" 172) :: en P "__cached__" 174 .none :: en P "_wall" 193 (.ref 21) :: en P "HouseError" 213 (.ref 31) :: en P "TooMany" 238 (.ref 51) :: en P "Double" 263 (.ref 70) :: en P "Orphan" 288 (.ref 89) :: en P "Clash" 313 (.ref 108) :: en P "NoPart" 338 (.ref 127) :: en P "prefixes" 346 (.ref 134) :: en P "parent_of" 353 (.ref 141) :: r
noncomputable def o17 : Obj := tu [.str "k" 190]
noncomputable def o19 : Obj := pf (Mine.top 0) "_wall" "_wall"
noncomputable def o22 : Obj := tu [.type "ValueError"]
noncomputable def o23 : Obj := { cls := .type "builtin_function_or_method", data := .fields #[.builtin "type.__prepare__", .type "type"] }
noncomputable def o24 (P : Params) : Obj := { cls := .type "dict", data := .dict #[en P "__module__" 203 (.str "drawhouse.errors" 194), en P "__qualname__" 205 (.str "HouseError" 204), en P "__firstlineno__" 207 (.int 5 206), en P "__static_attributes__" 208 (.ref 29)] 4 }
noncomputable def o27 : Obj := { cls := .type "code", data := .fields #[.str "HouseError" 198, .str "HouseError" 199, .str "/claim/cut.py" 200, .int 5 0, .int 0 0, .int 0 0, .int 0 0, .int 0 0, .ref 25, .bool false, .int 181 0, .ref 26, .none, .none, .none, .none, .int 201 0, .int 5 0, .str "/claim/cut.py" 202] }
noncomputable def o28 : Obj := { cls := .type "frame", slots := #[some (.ref 27), some (.ref 3), some (.ref 24), none, some (.str "drawhouse.errors" 194), none, some (.ref 0)] }
noncomputable def o33 : Obj := { cls := .type "super", data := .fields #[.ref 31, .ref 31, .ref 31] }
noncomputable def o34 : Obj := { cls := .type "builtin_function_or_method", data := .fields #[.builtin "object.__init_subclass__", .ref 31] }
noncomputable def o35 : Obj := tu [.ref 31]
noncomputable def o36 : Obj := { cls := .type "builtin_function_or_method", data := .fields #[.builtin "type.__prepare__", .type "type"] }
noncomputable def o37 (P : Params) : Obj := { cls := .type "dict", data := .dict #[en P "__module__" 221 (.str "drawhouse.errors" 194), en P "__qualname__" 223 (.str "TooMany" 222), en P "__firstlineno__" 225 (.int 7 224), en P "__init__" 233 (.ref 48), en P "__static_attributes__" 235 (.ref 49)] 5 }
noncomputable def o39 : Obj := { cls := .none, data := .fields #[.int 9 0, .int 4 0, .ref 47] }
noncomputable def o40 : Obj := { cls := .type "code", data := .fields #[.str "TooMany" 216, .str "TooMany" 217, .str "/claim/cut.py" 218, .int 7 0, .int 0 0, .int 0 0, .int 0 0, .int 0 0, .ref 38, .bool false, .int 181 0, .ref 39, .none, .none, .none, .none, .int 219 0, .int 7 0, .str "/claim/cut.py" 220] }
noncomputable def o41 : Obj := { cls := .type "frame", slots := #[some (.ref 40), some (.ref 3), some (.ref 37), none, some (.str "drawhouse.errors" 194), none, some (.ref 0)] }
noncomputable def o44 : Obj := tu [.str "self" 229, .str "at" 230]
noncomputable def o46 : Obj := pf ((Mine.aC (Mine.top 3)).getD 0 (.Pass ⟨0, 0, 0, 0⟩)) "__init__" "TooMany.__init__"
noncomputable def o49 : Obj := tu [.str "at" 234]
noncomputable def o52 : Obj := { cls := .type "super", data := .fields #[.ref 51, .ref 51, .ref 51] }
noncomputable def o53 : Obj := { cls := .type "builtin_function_or_method", data := .fields #[.builtin "object.__init_subclass__", .ref 51] }
noncomputable def o54 : Obj := tu [.ref 31]
noncomputable def o55 : Obj := { cls := .type "builtin_function_or_method", data := .fields #[.builtin "type.__prepare__", .type "type"] }
noncomputable def o56 (P : Params) : Obj := { cls := .type "dict", data := .dict #[en P "__module__" 246 (.str "drawhouse.errors" 194), en P "__qualname__" 248 (.str "Double" 247), en P "__firstlineno__" 250 (.int 12 249), en P "__init__" 258 (.ref 67), en P "__static_attributes__" 260 (.ref 68)] 5 }
noncomputable def o58 : Obj := { cls := .none, data := .fields #[.int 14 0, .int 4 0, .ref 66] }
noncomputable def o59 : Obj := { cls := .type "code", data := .fields #[.str "Double" 241, .str "Double" 242, .str "/claim/cut.py" 243, .int 12 0, .int 0 0, .int 0 0, .int 0 0, .int 0 0, .ref 57, .bool false, .int 181 0, .ref 58, .none, .none, .none, .none, .int 244 0, .int 12 0, .str "/claim/cut.py" 245] }
noncomputable def o60 : Obj := { cls := .type "frame", slots := #[some (.ref 59), some (.ref 3), some (.ref 56), none, some (.str "drawhouse.errors" 194), none, some (.ref 0)] }
noncomputable def o63 : Obj := tu [.str "self" 254, .str "at" 255]
noncomputable def o65 : Obj := pf ((Mine.aC (Mine.top 4)).getD 0 (.Pass ⟨0, 0, 0, 0⟩)) "__init__" "Double.__init__"
noncomputable def o68 : Obj := tu [.str "at" 259]
noncomputable def o71 : Obj := { cls := .type "super", data := .fields #[.ref 70, .ref 70, .ref 70] }
noncomputable def o72 : Obj := { cls := .type "builtin_function_or_method", data := .fields #[.builtin "object.__init_subclass__", .ref 70] }
noncomputable def o73 : Obj := tu [.ref 31]
noncomputable def o74 : Obj := { cls := .type "builtin_function_or_method", data := .fields #[.builtin "type.__prepare__", .type "type"] }
noncomputable def o75 (P : Params) : Obj := { cls := .type "dict", data := .dict #[en P "__module__" 271 (.str "drawhouse.errors" 194), en P "__qualname__" 273 (.str "Orphan" 272), en P "__firstlineno__" 275 (.int 17 274), en P "__init__" 283 (.ref 86), en P "__static_attributes__" 285 (.ref 87)] 5 }
noncomputable def o77 : Obj := { cls := .none, data := .fields #[.int 19 0, .int 4 0, .ref 85] }
noncomputable def o78 : Obj := { cls := .type "code", data := .fields #[.str "Orphan" 266, .str "Orphan" 267, .str "/claim/cut.py" 268, .int 17 0, .int 0 0, .int 0 0, .int 0 0, .int 0 0, .ref 76, .bool false, .int 181 0, .ref 77, .none, .none, .none, .none, .int 269 0, .int 17 0, .str "/claim/cut.py" 270] }
noncomputable def o79 : Obj := { cls := .type "frame", slots := #[some (.ref 78), some (.ref 3), some (.ref 75), none, some (.str "drawhouse.errors" 194), none, some (.ref 0)] }
noncomputable def o82 : Obj := tu [.str "self" 279, .str "at" 280]
noncomputable def o84 : Obj := pf ((Mine.aC (Mine.top 5)).getD 0 (.Pass ⟨0, 0, 0, 0⟩)) "__init__" "Orphan.__init__"
noncomputable def o87 : Obj := tu [.str "at" 284]
noncomputable def o90 : Obj := { cls := .type "super", data := .fields #[.ref 89, .ref 89, .ref 89] }
noncomputable def o91 : Obj := { cls := .type "builtin_function_or_method", data := .fields #[.builtin "object.__init_subclass__", .ref 89] }
noncomputable def o92 : Obj := tu [.ref 31]
noncomputable def o93 : Obj := { cls := .type "builtin_function_or_method", data := .fields #[.builtin "type.__prepare__", .type "type"] }
noncomputable def o94 (P : Params) : Obj := { cls := .type "dict", data := .dict #[en P "__module__" 296 (.str "drawhouse.errors" 194), en P "__qualname__" 298 (.str "Clash" 297), en P "__firstlineno__" 300 (.int 22 299), en P "__init__" 308 (.ref 105), en P "__static_attributes__" 310 (.ref 106)] 5 }
noncomputable def o96 : Obj := { cls := .none, data := .fields #[.int 24 0, .int 4 0, .ref 104] }
noncomputable def o97 : Obj := { cls := .type "code", data := .fields #[.str "Clash" 291, .str "Clash" 292, .str "/claim/cut.py" 293, .int 22 0, .int 0 0, .int 0 0, .int 0 0, .int 0 0, .ref 95, .bool false, .int 181 0, .ref 96, .none, .none, .none, .none, .int 294 0, .int 22 0, .str "/claim/cut.py" 295] }
noncomputable def o98 : Obj := { cls := .type "frame", slots := #[some (.ref 97), some (.ref 3), some (.ref 94), none, some (.str "drawhouse.errors" 194), none, some (.ref 0)] }
noncomputable def Oh : Obj := tu [.str "self" 304, .str "at" 305]
noncomputable def KD : Obj := pf ((Mine.aC (Mine.top 6)).getD 0 (.Pass ⟨0, 0, 0, 0⟩)) "__init__" "Clash.__init__"
noncomputable def MP : Obj := tu [.str "at" 309]
noncomputable def Jb : Obj := { cls := .type "super", data := .fields #[.ref 108, .ref 108, .ref 108] }
noncomputable def Ny : Obj := { cls := .type "builtin_function_or_method", data := .fields #[.builtin "object.__init_subclass__", .ref 108] }
noncomputable def o111 : Obj := tu [.ref 31]
noncomputable def JH : Obj := { cls := .type "builtin_function_or_method", data := .fields #[.builtin "type.__prepare__", .type "type"] }
noncomputable def JM (P : Params) : Obj := { cls := .type "dict", data := .dict #[en P "__module__" 321 (.str "drawhouse.errors" 194), en P "__qualname__" 323 (.str "NoPart" 322), en P "__firstlineno__" 325 (.int 27 324), en P "__init__" 333 (.ref 124), en P "__static_attributes__" 335 (.ref 125)] 5 }
noncomputable def NZ : Obj := { cls := .none, data := .fields #[.int 29 0, .int 4 0, .ref 123] }
noncomputable def MK : Obj := { cls := .type "code", data := .fields #[.str "NoPart" 316, .str "NoPart" 317, .str "/claim/cut.py" 318, .int 27 0, .int 0 0, .int 0 0, .int 0 0, .int 0 0, .ref 114, .bool false, .int 181 0, .ref 115, .none, .none, .none, .none, .int 319 0, .int 27 0, .str "/claim/cut.py" 320] }
noncomputable def NK : Obj := { cls := .type "frame", slots := #[some (.ref 116), some (.ref 3), some (.ref 113), none, some (.str "drawhouse.errors" 194), none, some (.ref 0)] }
noncomputable def Mh : Obj := tu [.str "self" 329, .str "address" 330]
noncomputable def Jy : Obj := pf ((Mine.aC (Mine.top 7)).getD 0 (.Pass ⟨0, 0, 0, 0⟩)) "__init__" "NoPart.__init__"
noncomputable def Ly : Obj := tu [.str "address" 334]
noncomputable def K1 : Obj := { cls := .type "super", data := .fields #[.ref 127, .ref 127, .ref 127] }
noncomputable def Ry : Obj := { cls := .type "builtin_function_or_method", data := .fields #[.builtin "object.__init_subclass__", .ref 127] }
noncomputable def QB : Obj := pf (Mine.top 9) "prefixes" "prefixes"
noncomputable def LR : Obj := tu [.str "address" 350]
noncomputable def Qq : Obj := pf (Mine.top 10) "parent_of" "parent_of"
noncomputable def Uc (P : Params) : BT := bG (t0 P) ((3, { cls := .type "dict", data := .dict (List.toArray (n0 P ([]))) 18 }) :: (12, { cls := .none, data := .fields #[.int 1 0, .int 0 0, .ref 20, .int 5 0, .int 0 0, .ref 27, .int 7 0, .int 0 0, .ref 40, .int 12 0, .int 0 0, .ref 59, .int 17 0, .int 0 0, .ref 78, .int 22 0, .int 0 0, .ref 97, .int 27 0, .int 0 0, .ref 116, .int 33 0, .int 0 0, .ref 133, .int 36 0, .int 0 0, .ref 140] }) :: (15, eT) :: (16, eF) :: (17, o17) :: (18, eT) :: (19, o19) :: (20, Mine.k20) :: (21, Mine.k21) :: (22, o22) :: (23, o23) :: (24, o24 P) :: [])
noncomputable def Tp (P : Params) : BT := bG (Uc P) ((25, eT) :: (26, eF) :: (27, o27) :: (28, o28) :: (29, eT) :: (30, Mine.k30 P) :: (31, Mine.k31) :: (32, Mine.k32) :: (33, o33) :: (34, o34) :: (35, o35) :: (36, o36) :: [])
noncomputable def T8 (P : Params) : BT := bG (Tp P) ((37, o37 P) :: (38, eT) :: (39, o39) :: (40, o40) :: (41, o41) :: (42, eT) :: (43, eF) :: (44, o44) :: (45, eT) :: (46, o46) :: (47, Mine.k47) :: (48, Mine.k48) :: [])
noncomputable def Tt (P : Params) : BT := bG (T8 P) ((49, o49) :: (50, Mine.k50 P) :: (51, Mine.k51) :: (52, o52) :: (53, o53) :: (54, o54) :: (55, o55) :: (56, o56 P) :: (57, eT) :: (58, o58) :: (59, o59) :: (60, o60) :: [])
noncomputable def Ur (P : Params) : BT := bG (Tt P) ((61, eT) :: (62, eF) :: (63, o63) :: (64, eT) :: (65, o65) :: (66, Mine.k66) :: (67, Mine.k67) :: (68, o68) :: (69, Mine.k69 P) :: (70, Mine.k70) :: (71, o71) :: (72, o72) :: [])
noncomputable def Tq (P : Params) : BT := bG (Ur P) ((73, o73) :: (74, o74) :: (75, o75 P) :: (76, eT) :: (77, o77) :: (78, o78) :: (79, o79) :: (80, eT) :: (81, eF) :: (82, o82) :: (83, eT) :: (84, o84) :: [])
noncomputable def Su (P : Params) : BT := bG (Tq P) ((85, Mine.k85) :: (86, Mine.k86) :: (87, o87) :: (88, Mine.k88 P) :: (89, Mine.k89) :: (90, o90) :: (91, o91) :: (92, o92) :: (93, o93) :: (94, o94 P) :: (95, eT) :: (96, o96) :: [])
noncomputable def RV (P : Params) : BT := bG (Su P) ((97, o97) :: (98, o98) :: (99, eT) :: (100, eF) :: (101, Oh) :: (102, eT) :: (103, KD) :: (104, Mine.k104) :: (105, Mine.k105) :: (106, MP) :: (107, Mine.k107 P) :: (108, Mine.k108) :: [])
noncomputable def SM (P : Params) : BT := bG (RV P) ((109, Jb) :: (110, Ny) :: (111, o111) :: (112, JH) :: (113, JM P) :: (114, eT) :: (115, NZ) :: (116, MK) :: (117, NK) :: (118, eT) :: (119, eF) :: (120, Mh) :: [])
noncomputable def S9 (P : Params) : BT := bG (SM P) ((121, eT) :: (122, Jy) :: (123, Mine.k123) :: (124, Mine.k124) :: (125, Ly) :: (126, Mine.k126 P) :: (127, Mine.k127) :: (128, K1) :: (129, Ry) :: (130, eT) :: (131, eF) :: (132, QB) :: [])
noncomputable def t1 (P : Params) : BT := bG (S9 P) ((133, Mine.k133) :: (134, Mine.k134) :: (135, eT) :: (136, eF) :: (137, LR) :: (138, eT) :: (139, Qq) :: (140, Mine.k140) :: (141, Mine.k141) :: [])
noncomputable def L0 (w : World) (os : OsState) : Option (Flow × SharedT × Code × Pos) := segRunT treeTable PySem.Challenge.pw_drawhouse_k34_leads_and_ways w 11 (some (Value.ref 6)) 1 1523 ⟨t0 w.params, nat_lit 15, { }, Array.mk [], { }, nat_lit 187, os⟩ (piecesOf (sl 0 12) env cE { line := 0, col := 0, endLine := 0, endCol := 0 } fr)
noncomputable def R0 (w : World) (os : OsState) : Option (Flow × SharedT × Code × Pos) := some (.next, ⟨t1 w.params, nat_lit 142, { }, Array.mk [], { }, nat_lit 356, os⟩, cE, { line := 38, col := 0, endLine := 38, endCol := 8 })
theorem rL0 : L0 = L0 := rfl
name_quick L0 for Hd.L0 by Hd.rL0
theorem rR0 : R0 = R0 := rfl
name_quick R0 for Hd.R0 by Hd.rR0
theorem q0 : PySem.W.Fast.L0 = PySem.W.Fast.R0 := by kernel_rfl
theorem e0 : L0 = R0 := PySem.W.Fast.L0_eq.trans (q0.trans PySem.W.Fast.R0_eq.symm)
noncomputable def n1 (P : Params) (r : List DictEntry) : List DictEntry := en P "Row" 396 (.ref 172) :: en P "Let" 437 (.ref 207) :: en P "Deed" 478 (.ref 240) :: en P "Draw" 526 (.ref 280) :: en P "Late" 574 (.ref 320) :: r
noncomputable def K8 : Obj := { cls := .type "builtin_function_or_method", data := .fields #[.builtin "type.__prepare__", .type "type"] }
noncomputable def Ku (P : Params) : Obj := { cls := .type "dict", data := .dict #[en P "__module__" 363 (.str "drawhouse.rows" 354), en P "__qualname__" 365 (.str "Row" 364), en P "__firstlineno__" 367 (.int 39 366), en P "binds" 374 (.ref 155), en P "asked" 381 (.ref 162), en P "said" 388 (.ref 169), en P "__static_attributes__" 389 (.ref 170)] 7 }
noncomputable def QW : Obj := { cls := .none, data := .fields #[.int 41 0, .int 4 0, .ref 154, .int 44 0, .int 4 0, .ref 161, .int 47 0, .int 4 0, .ref 168] }
noncomputable def Jp : Obj := { cls := .type "code", data := .fields #[.str "Row" 358, .str "Row" 359, .str "/claim/cut.py" 360, .int 39 0, .int 0 0, .int 0 0, .int 0 0, .int 0 0, .ref 145, .bool false, .int 181 0, .ref 146, .none, .none, .none, .none, .int 361 0, .int 39 0, .str "/claim/cut.py" 362] }
noncomputable def Oi : Obj := { cls := .type "frame", slots := #[some (.ref 147), some (.ref 3), some (.ref 144), none, some (.str "drawhouse.rows" 354), none, some (.ref 0)] }
noncomputable def Nf : Obj := tu [.str "self" 371]
noncomputable def M4 : Obj := pf ((Mine.aC (Mine.top 12)).getD 0 (.Pass ⟨0, 0, 0, 0⟩)) "binds" "Row.binds"
noncomputable def RC : Obj := tu [.str "self" 378]
noncomputable def O1 : Obj := pf ((Mine.aC (Mine.top 12)).getD 1 (.Pass ⟨0, 0, 0, 0⟩)) "asked" "Row.asked"
noncomputable def Kp : Obj := tu [.str "self" 385]
noncomputable def O5 : Obj := pf ((Mine.aC (Mine.top 12)).getD 2 (.Pass ⟨0, 0, 0, 0⟩)) "said" "Row.said"
noncomputable def JP : Obj := { cls := .type "super", data := .fields #[.ref 172, .ref 172, .ref 172] }
noncomputable def Ld : Obj := { cls := .type "builtin_function_or_method", data := .fields #[.builtin "object.__init_subclass__", .ref 172] }
noncomputable def Ri : Obj := tu [.ref 172]
noncomputable def Oq : Obj := { cls := .type "builtin_function_or_method", data := .fields #[.builtin "type.__prepare__", .type "type"] }
noncomputable def Jx (P : Params) : Obj := { cls := .type "dict", data := .dict #[en P "__module__" 404 (.str "drawhouse.rows" 354), en P "__qualname__" 406 (.str "Let" 405), en P "__firstlineno__" 408 (.int 49 407), en P "__init__" 417 (.ref 190), en P "binds" 424 (.ref 197), en P "said" 431 (.ref 204), en P "__static_attributes__" 434 (.ref 205)] 7 }
noncomputable def KC : Obj := { cls := .none, data := .fields #[.int 51 0, .int 4 0, .ref 189, .int 55 0, .int 4 0, .ref 196, .int 58 0, .int 4 0, .ref 203] }
noncomputable def Rw : Obj := { cls := .type "code", data := .fields #[.str "Let" 399, .str "Let" 400, .str "/claim/cut.py" 401, .int 49 0, .int 0 0, .int 0 0, .int 0 0, .int 0 0, .ref 180, .bool false, .int 181 0, .ref 181, .none, .none, .none, .none, .int 402 0, .int 49 0, .str "/claim/cut.py" 403] }
noncomputable def KY : Obj := { cls := .type "frame", slots := #[some (.ref 182), some (.ref 3), some (.ref 179), none, some (.str "drawhouse.rows" 354), none, some (.ref 0)] }
noncomputable def K7 : Obj := tu [.str "self" 412, .str "name" 413, .str "terms" 414]
noncomputable def Nm : Obj := pf ((Mine.aC (Mine.top 13)).getD 0 (.Pass ⟨0, 0, 0, 0⟩)) "__init__" "Let.__init__"
noncomputable def Mg : Obj := tu [.str "self" 421]
noncomputable def Ni : Obj := pf ((Mine.aC (Mine.top 13)).getD 1 (.Pass ⟨0, 0, 0, 0⟩)) "binds" "Let.binds"
noncomputable def o200 : Obj := tu [.str "self" 428]
noncomputable def Ln : Obj := pf ((Mine.aC (Mine.top 13)).getD 2 (.Pass ⟨0, 0, 0, 0⟩)) "said" "Let.said"
noncomputable def Qi : Obj := tu [.str "name" 432, .str "terms" 433]
noncomputable def Kf : Obj := { cls := .type "super", data := .fields #[.ref 207, .ref 207, .ref 207] }
noncomputable def RK : Obj := { cls := .type "builtin_function_or_method", data := .fields #[.builtin "object.__init_subclass__", .ref 207] }
noncomputable def Ma : Obj := tu [.ref 172]
noncomputable def Li : Obj := { cls := .type "builtin_function_or_method", data := .fields #[.builtin "type.__prepare__", .type "type"] }
noncomputable def Jh (P : Params) : Obj := { cls := .type "dict", data := .dict #[en P "__module__" 445 (.str "drawhouse.rows" 354), en P "__qualname__" 447 (.str "Deed" 446), en P "__firstlineno__" 449 (.int 60 448), en P "__init__" 458 (.ref 223), en P "binds" 465 (.ref 230), en P "said" 472 (.ref 237), en P "__static_attributes__" 475 (.ref 238)] 7 }
noncomputable def Nz : Obj := { cls := .none, data := .fields #[.int 62 0, .int 4 0, .ref 222, .int 66 0, .int 4 0, .ref 229, .int 69 0, .int 4 0, .ref 236] }
noncomputable def Jl : Obj := { cls := .type "code", data := .fields #[.str "Deed" 440, .str "Deed" 441, .str "/claim/cut.py" 442, .int 60 0, .int 0 0, .int 0 0, .int 0 0, .int 0 0, .ref 213, .bool false, .int 181 0, .ref 214, .none, .none, .none, .none, .int 443 0, .int 60 0, .str "/claim/cut.py" 444] }
noncomputable def JK : Obj := { cls := .type "frame", slots := #[some (.ref 215), some (.ref 3), some (.ref 212), none, some (.str "drawhouse.rows" 354), none, some (.ref 0)] }
noncomputable def Rc : Obj := tu [.str "self" 453, .str "name" 454, .str "terms" 455]
noncomputable def Jm : Obj := pf ((Mine.aC (Mine.top 14)).getD 0 (.Pass ⟨0, 0, 0, 0⟩)) "__init__" "Deed.__init__"
noncomputable def QR : Obj := tu [.str "self" 462]
noncomputable def MF : Obj := pf ((Mine.aC (Mine.top 14)).getD 1 (.Pass ⟨0, 0, 0, 0⟩)) "binds" "Deed.binds"
noncomputable def Qk : Obj := tu [.str "self" 469]
noncomputable def JW : Obj := pf ((Mine.aC (Mine.top 14)).getD 2 (.Pass ⟨0, 0, 0, 0⟩)) "said" "Deed.said"
noncomputable def La : Obj := tu [.str "name" 473, .str "terms" 474]
noncomputable def Kr : Obj := { cls := .type "super", data := .fields #[.ref 240, .ref 240, .ref 240] }
noncomputable def Rx : Obj := { cls := .type "builtin_function_or_method", data := .fields #[.builtin "object.__init_subclass__", .ref 240] }
noncomputable def KH : Obj := tu [.ref 172]
noncomputable def Qs : Obj := { cls := .type "builtin_function_or_method", data := .fields #[.builtin "type.__prepare__", .type "type"] }
noncomputable def JG (P : Params) : Obj := { cls := .type "dict", data := .dict #[en P "__module__" 486 (.str "drawhouse.rows" 354), en P "__qualname__" 488 (.str "Draw" 487), en P "__firstlineno__" 490 (.int 71 489), en P "__init__" 499 (.ref 256), en P "binds" 506 (.ref 263), en P "asked" 513 (.ref 270), en P "said" 520 (.ref 277), en P "__static_attributes__" 523 (.ref 278)] 8 }
noncomputable def Ms : Obj := { cls := .none, data := .fields #[.int 73 0, .int 4 0, .ref 255, .int 77 0, .int 4 0, .ref 262, .int 80 0, .int 4 0, .ref 269, .int 83 0, .int 4 0, .ref 276] }
noncomputable def Rh : Obj := { cls := .type "code", data := .fields #[.str "Draw" 481, .str "Draw" 482, .str "/claim/cut.py" 483, .int 71 0, .int 0 0, .int 0 0, .int 0 0, .int 0 0, .ref 246, .bool false, .int 181 0, .ref 247, .none, .none, .none, .none, .int 484 0, .int 71 0, .str "/claim/cut.py" 485] }
noncomputable def Qz : Obj := { cls := .type "frame", slots := #[some (.ref 248), some (.ref 3), some (.ref 245), none, some (.str "drawhouse.rows" 354), none, some (.ref 0)] }
noncomputable def JD : Obj := tu [.str "self" 494, .str "address" 495, .str "name" 496]
noncomputable def JQ : Obj := pf ((Mine.aC (Mine.top 15)).getD 0 (.Pass ⟨0, 0, 0, 0⟩)) "__init__" "Draw.__init__"
noncomputable def QZ : Obj := tu [.str "self" 503]
noncomputable def QX : Obj := pf ((Mine.aC (Mine.top 15)).getD 1 (.Pass ⟨0, 0, 0, 0⟩)) "binds" "Draw.binds"
noncomputable def Qm : Obj := tu [.str "self" 510]
noncomputable def RM : Obj := pf ((Mine.aC (Mine.top 15)).getD 2 (.Pass ⟨0, 0, 0, 0⟩)) "asked" "Draw.asked"
noncomputable def Nv : Obj := tu [.str "self" 517]
noncomputable def Og : Obj := pf ((Mine.aC (Mine.top 15)).getD 3 (.Pass ⟨0, 0, 0, 0⟩)) "said" "Draw.said"
noncomputable def Lq : Obj := tu [.str "address" 521, .str "name" 522]
noncomputable def Kw : Obj := { cls := .type "super", data := .fields #[.ref 280, .ref 280, .ref 280] }
noncomputable def N7 : Obj := { cls := .type "builtin_function_or_method", data := .fields #[.builtin "object.__init_subclass__", .ref 280] }
noncomputable def Rr : Obj := tu [.ref 172]
noncomputable def JF : Obj := { cls := .type "builtin_function_or_method", data := .fields #[.builtin "type.__prepare__", .type "type"] }
noncomputable def O2 (P : Params) : Obj := { cls := .type "dict", data := .dict #[en P "__module__" 534 (.str "drawhouse.rows" 354), en P "__qualname__" 536 (.str "Late" 535), en P "__firstlineno__" 538 (.int 85 537), en P "__init__" 547 (.ref 296), en P "binds" 554 (.ref 303), en P "asked" 561 (.ref 310), en P "said" 568 (.ref 317), en P "__static_attributes__" 571 (.ref 318)] 8 }
noncomputable def Jz : Obj := { cls := .none, data := .fields #[.int 87 0, .int 4 0, .ref 295, .int 91 0, .int 4 0, .ref 302, .int 94 0, .int 4 0, .ref 309, .int 97 0, .int 4 0, .ref 316] }
noncomputable def JR : Obj := { cls := .type "code", data := .fields #[.str "Late" 529, .str "Late" 530, .str "/claim/cut.py" 531, .int 85 0, .int 0 0, .int 0 0, .int 0 0, .int 0 0, .ref 286, .bool false, .int 181 0, .ref 287, .none, .none, .none, .none, .int 532 0, .int 85 0, .str "/claim/cut.py" 533] }
noncomputable def QD : Obj := { cls := .type "frame", slots := #[some (.ref 288), some (.ref 3), some (.ref 285), none, some (.str "drawhouse.rows" 354), none, some (.ref 0)] }
noncomputable def K6 : Obj := tu [.str "self" 542, .str "address" 543, .str "name" 544]
noncomputable def Rm : Obj := pf ((Mine.aC (Mine.top 16)).getD 0 (.Pass ⟨0, 0, 0, 0⟩)) "__init__" "Late.__init__"
noncomputable def Ka : Obj := tu [.str "self" 551]
noncomputable def Qp : Obj := pf ((Mine.aC (Mine.top 16)).getD 1 (.Pass ⟨0, 0, 0, 0⟩)) "binds" "Late.binds"
noncomputable def Mj : Obj := tu [.str "self" 558]
noncomputable def Ji : Obj := pf ((Mine.aC (Mine.top 16)).getD 2 (.Pass ⟨0, 0, 0, 0⟩)) "asked" "Late.asked"
noncomputable def Py : Obj := tu [.str "self" 565]
noncomputable def QH : Obj := pf ((Mine.aC (Mine.top 16)).getD 3 (.Pass ⟨0, 0, 0, 0⟩)) "said" "Late.said"
noncomputable def J3 : Obj := tu [.str "address" 569, .str "name" 570]
noncomputable def NT : Obj := { cls := .type "super", data := .fields #[.ref 320, .ref 320, .ref 320] }
noncomputable def Qt : Obj := { cls := .type "builtin_function_or_method", data := .fields #[.builtin "object.__init_subclass__", .ref 320] }
noncomputable def TY (P : Params) : BT := bG (t1 P) ((3, { cls := .type "dict", data := .dict (List.toArray (n0 P (n1 P ([])))) 23 }) :: (12, { cls := .none, data := .fields #[.int 1 0, .int 0 0, .ref 20, .int 5 0, .int 0 0, .ref 27, .int 7 0, .int 0 0, .ref 40, .int 12 0, .int 0 0, .ref 59, .int 17 0, .int 0 0, .ref 78, .int 22 0, .int 0 0, .ref 97, .int 27 0, .int 0 0, .ref 116, .int 33 0, .int 0 0, .ref 133, .int 36 0, .int 0 0, .ref 140, .int 39 0, .int 0 0, .ref 147, .int 49 0, .int 0 0, .ref 182, .int 60 0, .int 0 0, .ref 215, .int 71 0, .int 0 0, .ref 248, .int 85 0, .int 0 0, .ref 288] }) :: (142, eT) :: (143, K8) :: (144, Ku P) :: (145, eT) :: (146, QW) :: (147, Jp) :: (148, Oi) :: (149, eT) :: (150, eF) :: (151, Nf) :: [])
noncomputable def Um (P : Params) : BT := bG (TY P) ((152, eT) :: (153, M4) :: (154, Mine.k154) :: (155, Mine.k155) :: (156, eT) :: (157, eF) :: (158, RC) :: (159, eT) :: (160, O1) :: (161, Mine.k161) :: (162, Mine.k162) :: (163, eT) :: [])
noncomputable def Sw (P : Params) : BT := bG (Um P) ((164, eF) :: (165, Kp) :: (166, eT) :: (167, O5) :: (168, Mine.k168) :: (169, Mine.k169) :: (170, eT) :: (171, Mine.k171 P) :: (172, { cls := .type "type", data := .cls { name := Str.ofString "Row", bases := [.type "object"], mro := [.ref 172, .type "object"], ns := 171, qualname := Str.ofString "Row", subclasses := [.ref 207, .ref 240, .ref 280, .ref 320] }, slots := #[none, none, some (.str "Row" 356), some (.str "Row" 364), some (.builtin "object.__new__"), some (.bool true)] }) :: (173, Mine.k173) :: (174, Mine.k174) :: (175, JP) :: [])
noncomputable def Sh (P : Params) : BT := bG (Sw P) ((176, Ld) :: (177, Ri) :: (178, Oq) :: (179, Jx P) :: (180, eT) :: (181, KC) :: (182, Rw) :: (183, KY) :: (184, eT) :: (185, eF) :: (186, K7) :: (187, eT) :: [])
noncomputable def Uk (P : Params) : BT := bG (Sh P) ((188, Nm) :: (189, Mine.k189) :: (190, Mine.k190) :: (191, eT) :: (192, eF) :: (193, Mg) :: (194, eT) :: (195, Ni) :: (196, Mine.k196) :: (197, Mine.k197) :: (198, eT) :: (199, eF) :: [])
noncomputable def T7 (P : Params) : BT := bG (Uk P) ((200, o200) :: (201, eT) :: (202, Ln) :: (203, Mine.k203) :: (204, Mine.k204) :: (205, Qi) :: (206, Mine.k206 P) :: (207, Mine.k207) :: (208, Kf) :: (209, RK) :: (210, Ma) :: (211, Li) :: [])
noncomputable def Uj (P : Params) : BT := bG (T7 P) ((212, Jh P) :: (213, eT) :: (214, Nz) :: (215, Jl) :: (216, JK) :: (217, eT) :: (218, eF) :: (219, Rc) :: (220, eT) :: (221, Jm) :: (222, Mine.k222) :: (223, Mine.k223) :: [])
noncomputable def Sq (P : Params) : BT := bG (Uj P) ((224, eT) :: (225, eF) :: (226, QR) :: (227, eT) :: (228, MF) :: (229, Mine.k229) :: (230, Mine.k230) :: (231, eT) :: (232, eF) :: (233, Qk) :: (234, eT) :: (235, JW) :: [])
noncomputable def T9 (P : Params) : BT := bG (Sq P) ((236, Mine.k236) :: (237, Mine.k237) :: (238, La) :: (239, Mine.k239 P) :: (240, Mine.k240) :: (241, Kr) :: (242, Rx) :: (243, KH) :: (244, Qs) :: (245, JG P) :: (246, eT) :: (247, Ms) :: [])
noncomputable def TX (P : Params) : BT := bG (T9 P) ((248, Rh) :: (249, Qz) :: (250, eT) :: (251, eF) :: (252, JD) :: (253, eT) :: (254, JQ) :: (255, Mine.k255) :: (256, Mine.k256) :: (257, eT) :: (258, eF) :: (259, QZ) :: [])
noncomputable def Mi (P : Params) : BT := bG (TX P) ((260, eT) :: (261, QX) :: (262, Mine.k262) :: (263, Mine.k263) :: (264, eT) :: (265, eF) :: (266, Qm) :: (267, eT) :: (268, RM) :: (269, Mine.k269) :: (270, Mine.k270) :: (271, eT) :: [])
noncomputable def K9 (P : Params) : BT := bG (Mi P) ((272, eF) :: (273, Nv) :: (274, eT) :: (275, Og) :: (276, Mine.k276) :: (277, Mine.k277) :: (278, Lq) :: (279, Mine.k279 P) :: (280, Mine.k280) :: (281, Kw) :: (282, N7) :: (283, Rr) :: [])
noncomputable def Ql (P : Params) : BT := bG (K9 P) ((284, JF) :: (285, O2 P) :: (286, eT) :: (287, Jz) :: (288, JR) :: (289, QD) :: (290, eT) :: (291, eF) :: (292, K6) :: (293, eT) :: (294, Rm) :: (295, Mine.k295) :: [])
noncomputable def Oj (P : Params) : BT := bG (Ql P) ((296, Mine.k296) :: (297, eT) :: (298, eF) :: (299, Ka) :: (300, eT) :: (301, Qp) :: (302, Mine.k302) :: (303, Mine.k303) :: (304, eT) :: (305, eF) :: (306, Mj) :: (307, eT) :: [])
noncomputable def Qx (P : Params) : BT := bG (Oj P) ((308, Ji) :: (309, Mine.k309) :: (310, Mine.k310) :: (311, eT) :: (312, eF) :: (313, Py) :: (314, eT) :: (315, QH) :: (316, Mine.k316) :: (317, Mine.k317) :: (318, J3) :: (319, Mine.k319 P) :: [])
noncomputable def t2 (P : Params) : BT := bG (Qx P) ((320, Mine.k320) :: (321, NT) :: (322, Qt) :: [])
noncomputable def L1 (w : World) (os : OsState) : Option (Flow × SharedT × Code × Pos) := segRunT treeTable PySem.Challenge.pw_drawhouse_k34_leads_and_ways w 11 (some (Value.ref 6)) 1 1581 ⟨t1 w.params, nat_lit 142, { }, Array.mk [], { }, nat_lit 356, os⟩ (piecesOf (sl 12 5) env cE { line := 38, col := 0, endLine := 38, endCol := 8 } fr)
noncomputable def R1 (w : World) (os : OsState) : Option (Flow × SharedT × Code × Pos) := some (.next, ⟨t2 w.params, nat_lit 323, { }, Array.mk [], { }, nat_lit 575, os⟩, cE, { line := 85, col := 0, endLine := 98, endCol := 16 })
theorem rL1 : L1 = L1 := rfl
name_quick L1 for Hd.L1 by Hd.rL1
theorem rR1 : R1 = R1 := rfl
name_quick R1 for Hd.R1 by Hd.rR1
theorem q1 : PySem.W.Fast.L1 = PySem.W.Fast.R1 := by kernel_rfl
theorem e1 : L1 = R1 := PySem.W.Fast.L1_eq.trans (q1.trans PySem.W.Fast.R1_eq.symm)
noncomputable def n2 (P : Params) (r : List DictEntry) : List DictEntry := en P "__name__" 165 (.str "drawhouse.parts" 815) :: en P "__doc__" 166 .none :: en P "__package__" 167 .none :: en P "__loader__" 168 (.builtin "__main__.__loader__#opaque") :: en P "__spec__" 169 .none :: en P "__annotations__" 170 (.ref 6) :: en P "__builtins__" 171 (.ref 4) :: en P "__file__" 173 (.str "/claim/cut.py" 172) :: en P "__cached__" 174 .none :: en P "_wall" 193 (.ref 21) :: en P "HouseError" 213 (.ref 31) :: en P "TooMany" 238 (.ref 51) :: en P "Double" 263 (.ref 70) :: en P "Orphan" 288 (.ref 89) :: en P "Clash" 313 (.ref 108) :: en P "NoPart" 338 (.ref 127) :: en P "prefixes" 346 (.ref 134) :: en P "parent_of" 353 (.ref 141) :: r
noncomputable def n3 (P : Params) (r : List DictEntry) : List DictEntry := en P "Take" 624 (.ref 360) :: en P "Need" 656 (.ref 386) :: en P "named_by" 667 (.ref 395) :: en P "links" 673 (.ref 400) :: en P "all_links" 682 (.ref 407) :: en P "reached" 693 (.ref 414) :: en P "check_part" 701 (.ref 421) :: en P "leads" 709 (.ref 428) :: en P "way_between" 723 (.ref 435) :: en P "MOST_PARTS" 727 (.int 12 726) :: en P "is_orphan" 736 (.ref 442) :: en P "is_clash" 742 (.ref 447) :: en P "check_parts" 748 (.ref 452) :: en P "House" 814 (.ref 500) :: r
noncomputable def Px : Obj := tu [.ref 172]
noncomputable def Pk : Obj := { cls := .type "builtin_function_or_method", data := .fields #[.builtin "type.__prepare__", .type "type"] }
noncomputable def Pj (P : Params) : Obj := { cls := .type "dict", data := .dict #[en P "__module__" 582 (.str "drawhouse.rows" 354), en P "__qualname__" 584 (.str "Take" 583), en P "__firstlineno__" 586 (.int 99 585), en P "__init__" 596 (.ref 336), en P "binds" 603 (.ref 343), en P "asked" 610 (.ref 350), en P "said" 617 (.ref 357), en P "__static_attributes__" 621 (.ref 358)] 8 }
noncomputable def Qo : Obj := { cls := .none, data := .fields #[.int 101 0, .int 4 0, .ref 335, .int 106 0, .int 4 0, .ref 342, .int 109 0, .int 4 0, .ref 349, .int 112 0, .int 4 0, .ref 356] }
noncomputable def MN : Obj := { cls := .type "code", data := .fields #[.str "Take" 577, .str "Take" 578, .str "/claim/cut.py" 579, .int 99 0, .int 0 0, .int 0 0, .int 0 0, .int 0 0, .ref 326, .bool false, .int 181 0, .ref 327, .none, .none, .none, .none, .int 580 0, .int 99 0, .str "/claim/cut.py" 581] }
noncomputable def Jr : Obj := { cls := .type "frame", slots := #[some (.ref 328), some (.ref 3), some (.ref 325), none, some (.str "drawhouse.rows" 354), none, some (.ref 0)] }
noncomputable def Qj : Obj := tu [.str "self" 590, .str "word" 591, .str "address" 592, .str "name" 593]
noncomputable def Jg : Obj := pf ((Mine.aC (Mine.top 17)).getD 0 (.Pass ⟨0, 0, 0, 0⟩)) "__init__" "Take.__init__"
noncomputable def Lk : Obj := tu [.str "self" 600]
noncomputable def O7 : Obj := pf ((Mine.aC (Mine.top 17)).getD 1 (.Pass ⟨0, 0, 0, 0⟩)) "binds" "Take.binds"
noncomputable def Ou : Obj := tu [.str "self" 607]
noncomputable def Rk : Obj := pf ((Mine.aC (Mine.top 17)).getD 2 (.Pass ⟨0, 0, 0, 0⟩)) "asked" "Take.asked"
noncomputable def JC : Obj := tu [.str "self" 614]
noncomputable def M7 : Obj := pf ((Mine.aC (Mine.top 17)).getD 3 (.Pass ⟨0, 0, 0, 0⟩)) "said" "Take.said"
noncomputable def QL : Obj := tu [.str "address" 618, .str "name" 619, .str "word" 620]
noncomputable def Od : Obj := { cls := .type "super", data := .fields #[.ref 360, .ref 360, .ref 360] }
noncomputable def Oz : Obj := { cls := .type "builtin_function_or_method", data := .fields #[.builtin "object.__init_subclass__", .ref 360] }
noncomputable def Kz : Obj := tu [.ref 172]
noncomputable def O4 : Obj := { cls := .type "builtin_function_or_method", data := .fields #[.builtin "type.__prepare__", .type "type"] }
noncomputable def Mf (P : Params) : Obj := { cls := .type "dict", data := .dict #[en P "__module__" 632 (.str "drawhouse.rows" 354), en P "__qualname__" 634 (.str "Need" 633), en P "__firstlineno__" 636 (.int 114 635), en P "__init__" 644 (.ref 376), en P "said" 651 (.ref 383), en P "__static_attributes__" 653 (.ref 384)] 6 }
noncomputable def Mm : Obj := { cls := .none, data := .fields #[.int 116 0, .int 4 0, .ref 375, .int 119 0, .int 4 0, .ref 382] }
noncomputable def Jd : Obj := { cls := .type "code", data := .fields #[.str "Need" 627, .str "Need" 628, .str "/claim/cut.py" 629, .int 114 0, .int 0 0, .int 0 0, .int 0 0, .int 0 0, .ref 366, .bool false, .int 181 0, .ref 367, .none, .none, .none, .none, .int 630 0, .int 114 0, .str "/claim/cut.py" 631] }
noncomputable def Kq : Obj := { cls := .type "frame", slots := #[some (.ref 368), some (.ref 3), some (.ref 365), none, some (.str "drawhouse.rows" 354), none, some (.ref 0)] }
noncomputable def LQ : Obj := tu [.str "self" 640, .str "terms" 641]
noncomputable def Mr : Obj := pf ((Mine.aC (Mine.top 18)).getD 0 (.Pass ⟨0, 0, 0, 0⟩)) "__init__" "Need.__init__"
noncomputable def Mx : Obj := tu [.str "self" 648]
noncomputable def Rg : Obj := pf ((Mine.aC (Mine.top 18)).getD 1 (.Pass ⟨0, 0, 0, 0⟩)) "said" "Need.said"
noncomputable def Ru : Obj := tu [.str "terms" 652]
noncomputable def LC : Obj := { cls := .type "super", data := .fields #[.ref 386, .ref 386, .ref 386] }
noncomputable def Nt : Obj := { cls := .type "builtin_function_or_method", data := .fields #[.builtin "object.__init_subclass__", .ref 386] }
noncomputable def Ks : Obj := tu [.str "row" 662, .str "named" 663, .str "address" 664]
noncomputable def PN : Obj := pf (Mine.top 20) "named_by" "named_by"
noncomputable def Qv : Obj := pf (Mine.top 21) "links" "links"
noncomputable def Rq : Obj := tu [.str "house" 677, .str "linked" 678, .str "address" 679]
noncomputable def NP : Obj := pf (Mine.top 22) "all_links" "all_links"
noncomputable def Nk : Obj := tu [.str "linked" 686, .str "address" 687, .str "ahead" 688, .str "found" 689, .str "one" 690]
noncomputable def RD : Obj := pf (Mine.top 23) "reached" "reached"
noncomputable def RL : Obj := tu [.str "house" 697, .str "address" 698]
noncomputable def P0 : Obj := pf (Mine.top 24) "check_part" "check_part"
noncomputable def Ra : Obj := tu [.str "house" 705, .str "address" 706]
noncomputable def Qy : Obj := pf (Mine.top 25) "leads" "leads"
noncomputable def Qe : Obj := tu [.str "house" 713, .str "one" 714, .str "other" 715, .str "linked" 716, .str "ways" 717, .str "seen" 718, .str "way" 719, .str "address" 720]
noncomputable def Qc : Obj := pf (Mine.top 26) "way_between" "way_between"
noncomputable def Kh : Obj := tu [.str "part" 731, .str "addresses" 732, .str "parent" 733]
noncomputable def J6 : Obj := pf (Mine.top 29) "is_orphan" "is_orphan"
noncomputable def J2 : Obj := pf (Mine.top 30) "is_clash" "is_clash"
noncomputable def JX : Obj := pf (Mine.top 31) "check_parts" "check_parts"
noncomputable def Qg : Obj := { cls := .type "builtin_function_or_method", data := .fields #[.builtin "type.__prepare__", .type "type"] }
noncomputable def Mz (P : Params) : Obj := { cls := .type "dict", data := .dict #[en P "__module__" 756 (.str "drawhouse.house" 724), en P "__qualname__" 758 (.str "House" 757), en P "__firstlineno__" 760 (.int 188 759), en P "__init__" 768 (.ref 466), en P "addresses" 774 (.ref 471), en P "has" 780 (.ref 476), en P "part" 789 (.ref 483), en P "with_part" 797 (.ref 490), en P "without" 805 (.ref 497), en P "__static_attributes__" 807 (.ref 498)] 10 }
noncomputable def Pb : Obj := { cls := .none, data := .fields #[.int 190 0, .int 4 0, .ref 465, .int 194 0, .int 4 0, .ref 470, .int 197 0, .int 4 0, .ref 475, .int 200 0, .int 4 0, .ref 482, .int 206 0, .int 4 0, .ref 489, .int 209 0, .int 4 0, .ref 496] }
noncomputable def QF : Obj := { cls := .type "code", data := .fields #[.str "House" 751, .str "House" 752, .str "/claim/cut.py" 753, .int 188 0, .int 0 0, .int 0 0, .int 0 0, .int 0 0, .ref 456, .bool false, .int 181 0, .ref 457, .none, .none, .none, .none, .int 754 0, .int 188 0, .str "/claim/cut.py" 755] }
noncomputable def Ow : Obj := { cls := .type "frame", slots := #[some (.ref 458), some (.ref 3), some (.ref 455), none, some (.str "drawhouse.house" 724), none, some (.ref 0)] }
noncomputable def M8 : Obj := tu [.str "self" 764, .str "parts" 765]
noncomputable def RB : Obj := pf ((Mine.aC (Mine.top 32)).getD 0 (.Pass ⟨0, 0, 0, 0⟩)) "__init__" "House.__init__"
noncomputable def Qu : Obj := pf ((Mine.aC (Mine.top 32)).getD 1 (.Pass ⟨0, 0, 0, 0⟩)) "addresses" "House.addresses"
noncomputable def Rj : Obj := pf ((Mine.aC (Mine.top 32)).getD 2 (.Pass ⟨0, 0, 0, 0⟩)) "has" "House.has"
noncomputable def QK : Obj := tu [.str "self" 784, .str "address" 785, .str "part" 786]
noncomputable def Jo : Obj := pf ((Mine.aC (Mine.top 32)).getD 3 (.Pass ⟨0, 0, 0, 0⟩)) "part" "House.part"
noncomputable def JZ : Obj := tu [.str "self" 793, .str "part" 794]
noncomputable def O6 : Obj := pf ((Mine.aC (Mine.top 32)).getD 4 (.Pass ⟨0, 0, 0, 0⟩)) "with_part" "House.with_part"
noncomputable def Nj : Obj := tu [.str "self" 801, .str "address" 802]
noncomputable def Jw : Obj := pf ((Mine.aC (Mine.top 32)).getD 5 (.Pass ⟨0, 0, 0, 0⟩)) "without" "House.without"
noncomputable def Jq : Obj := tu [.str "told" 806]
noncomputable def KQ : Obj := { cls := .type "super", data := .fields #[.ref 500, .ref 500, .ref 500] }
noncomputable def Ro : Obj := { cls := .type "builtin_function_or_method", data := .fields #[.builtin "object.__init_subclass__", .ref 500] }
noncomputable def Uo (P : Params) : BT := bG (t2 P) ((3, { cls := .type "dict", data := .dict (List.toArray (n2 P (n1 P (n3 P ([]))))) 37 }) :: (12, { cls := .none, data := .fields #[.int 1 0, .int 0 0, .ref 20, .int 5 0, .int 0 0, .ref 27, .int 7 0, .int 0 0, .ref 40, .int 12 0, .int 0 0, .ref 59, .int 17 0, .int 0 0, .ref 78, .int 22 0, .int 0 0, .ref 97, .int 27 0, .int 0 0, .ref 116, .int 33 0, .int 0 0, .ref 133, .int 36 0, .int 0 0, .ref 140, .int 39 0, .int 0 0, .ref 147, .int 49 0, .int 0 0, .ref 182, .int 60 0, .int 0 0, .ref 215, .int 71 0, .int 0 0, .ref 248, .int 85 0, .int 0 0, .ref 288, .int 99 0, .int 0 0, .ref 328, .int 114 0, .int 0 0, .ref 368, .int 122 0, .int 0 0, .ref 394, .int 129 0, .int 0 0, .ref 399, .int 135 0, .int 0 0, .ref 406, .int 140 0, .int 0 0, .ref 413, .int 149 0, .int 0 0, .ref 420, .int 152 0, .int 0 0, .ref 427, .int 155 0, .int 0 0, .ref 434, .int 172 0, .int 0 0, .ref 441, .int 175 0, .int 0 0, .ref 446, .int 177 0, .int 0 0, .ref 451, .int 188 0, .int 0 0, .ref 458] }) :: (172, Mine.k172) :: (323, Px) :: (324, Pk) :: (325, Pj P) :: (326, eT) :: (327, Qo) :: (328, MN) :: (329, Jr) :: (330, eT) :: (331, eF) :: [])
noncomputable def T6 (P : Params) : BT := bG (Uo P) ((332, Qj) :: (333, eT) :: (334, Jg) :: (335, Mine.k335) :: (336, Mine.k336) :: (337, eT) :: (338, eF) :: (339, Lk) :: (340, eT) :: (341, O7) :: (342, Mine.k342) :: (343, Mine.k343) :: [])
noncomputable def Uq (P : Params) : BT := bG (T6 P) ((344, eT) :: (345, eF) :: (346, Ou) :: (347, eT) :: (348, Rk) :: (349, Mine.k349) :: (350, Mine.k350) :: (351, eT) :: (352, eF) :: (353, JC) :: (354, eT) :: (355, M7) :: [])
noncomputable def T4 (P : Params) : BT := bG (Uq P) ((356, Mine.k356) :: (357, Mine.k357) :: (358, QL) :: (359, Mine.k359 P) :: (360, Mine.k360) :: (361, Od) :: (362, Oz) :: (363, Kz) :: (364, O4) :: (365, Mf P) :: (366, eT) :: (367, Mm) :: [])
noncomputable def Sy (P : Params) : BT := bG (T4 P) ((368, Jd) :: (369, Kq) :: (370, eT) :: (371, eF) :: (372, LQ) :: (373, eT) :: (374, Mr) :: (375, Mine.k375) :: (376, Mine.k376) :: (377, eT) :: (378, eF) :: (379, Mx) :: [])
noncomputable def Sv (P : Params) : BT := bG (Sy P) ((380, eT) :: (381, Rg) :: (382, Mine.k382) :: (383, Mine.k383) :: (384, Ru) :: (385, Mine.k385 P) :: (386, Mine.k386) :: (387, LC) :: (388, Nt) :: (389, eT) :: (390, eF) :: (391, Ks) :: [])
noncomputable def Th (P : Params) : BT := bG (Sv P) ((392, eT) :: (393, PN) :: (394, Mine.k394) :: (395, Mine.k395) :: (396, eT) :: (397, eF) :: (398, Qv) :: (399, Mine.k399) :: (400, Mine.k400) :: (401, eT) :: (402, eF) :: (403, Rq) :: [])
noncomputable def Td (P : Params) : BT := bG (Th P) ((404, eT) :: (405, NP) :: (406, Mine.k406) :: (407, Mine.k407) :: (408, eT) :: (409, eF) :: (410, Nk) :: (411, eT) :: (412, RD) :: (413, Mine.k413) :: (414, Mine.k414) :: (415, eT) :: [])
noncomputable def T5 (P : Params) : BT := bG (Td P) ((416, eF) :: (417, RL) :: (418, eT) :: (419, P0) :: (420, Mine.k420) :: (421, Mine.k421) :: (422, eT) :: (423, eF) :: (424, Ra) :: (425, eT) :: (426, Qy) :: (427, Mine.k427) :: [])
noncomputable def RQ (P : Params) : BT := bG (T5 P) ((428, Mine.k428) :: (429, eT) :: (430, eF) :: (431, Qe) :: (432, eT) :: (433, Qc) :: (434, Mine.k434) :: (435, Mine.k435) :: (436, eT) :: (437, eF) :: (438, Kh) :: (439, eT) :: [])
noncomputable def M6 (P : Params) : BT := bG (RQ P) ((440, J6) :: (441, Mine.k441) :: (442, Mine.k442) :: (443, eT) :: (444, eF) :: (445, J2) :: (446, Mine.k446) :: (447, Mine.k447) :: (448, eT) :: (449, eF) :: (450, JX) :: (451, Mine.k451) :: [])
noncomputable def KR (P : Params) : BT := bG (M6 P) ((452, Mine.k452) :: (453, eT) :: (454, Qg) :: (455, Mz P) :: (456, eT) :: (457, Pb) :: (458, QF) :: (459, Ow) :: (460, eT) :: (461, eF) :: (462, M8) :: (463, eT) :: [])
noncomputable def Kc (P : Params) : BT := bG (KR P) ((464, RB) :: (465, Mine.k465) :: (466, Mine.k466) :: (467, eT) :: (468, eF) :: (469, Qu) :: (470, Mine.k470) :: (471, Mine.k471) :: (472, eT) :: (473, eF) :: (474, Rj) :: (475, Mine.k475) :: [])
noncomputable def RJ (P : Params) : BT := bG (Kc P) ((476, Mine.k476) :: (477, eT) :: (478, eF) :: (479, QK) :: (480, eT) :: (481, Jo) :: (482, Mine.k482) :: (483, Mine.k483) :: (484, eT) :: (485, eF) :: (486, JZ) :: (487, eT) :: [])
noncomputable def OJ (P : Params) : BT := bG (RJ P) ((488, O6) :: (489, Mine.k489) :: (490, Mine.k490) :: (491, eT) :: (492, eF) :: (493, Nj) :: (494, eT) :: (495, Jw) :: (496, Mine.k496) :: (497, Mine.k497) :: (498, Jq) :: (499, Mine.k499 P) :: [])
noncomputable def t3 (P : Params) : BT := bG (OJ P) ((500, Mine.k500) :: (501, Mine.k501) :: (502, Mine.k502) :: (503, KQ) :: (504, Ro) :: [])
noncomputable def L2 (w : World) (os : OsState) : Option (Flow × SharedT × Code × Pos) := segRunT treeTable PySem.Challenge.pw_drawhouse_k34_leads_and_ways w 11 (some (Value.ref 6)) 1 1330 ⟨t2 w.params, nat_lit 323, { }, Array.mk [], { }, nat_lit 575, os⟩ (piecesOf (sl 17 17) env cE { line := 85, col := 0, endLine := 98, endCol := 16 } fr)
noncomputable def R2 (w : World) (os : OsState) : Option (Flow × SharedT × Code × Pos) := some (.next, ⟨t3 w.params, nat_lit 505, { }, Array.mk [], { }, nat_lit 817, os⟩, cE, { line := 211, col := 0, endLine := 211, endCol := 8 })
theorem rL2 : L2 = L2 := rfl
name_quick L2 for Hd.L2 by Hd.rL2
theorem rR2 : R2 = R2 := rfl
name_quick R2 for Hd.R2 by Hd.rR2
theorem q2 : PySem.W.Fast.L2 = PySem.W.Fast.R2 := by kernel_rfl
theorem e2 : L2 = R2 := PySem.W.Fast.L2_eq.trans (q2.trans PySem.W.Fast.R2_eq.symm)
noncomputable def n4 (P : Params) (r : List DictEntry) : List DictEntry := en P "__name__" 165 (.str "law_drawhouse_k34_leads_and_ways" 869) :: en P "__doc__" 166 .none :: en P "__package__" 167 .none :: en P "__loader__" 168 (.builtin "__main__.__loader__#opaque") :: en P "__spec__" 169 .none :: en P "__annotations__" 170 (.ref 6) :: en P "__builtins__" 171 (.ref 4) :: en P "__file__" 173 (.str "/claim/cut.py" 172) :: en P "__cached__" 174 .none :: en P "_wall" 193 (.ref 21) :: en P "HouseError" 213 (.ref 31) :: en P "TooMany" 238 (.ref 51) :: en P "Double" 263 (.ref 70) :: en P "Orphan" 288 (.ref 89) :: en P "Clash" 313 (.ref 108) :: en P "NoPart" 338 (.ref 127) :: en P "prefixes" 346 (.ref 134) :: en P "parent_of" 353 (.ref 141) :: r
noncomputable def n5 (P : Params) (r : List DictEntry) : List DictEntry := en P "Part" 868 (.ref 540) :: en P "_law_cell" 878 (.ref 551) :: en P "_law_pick" 890 (.ref 558) :: en P "_law_words" 896 (.ref 563) :: en P "_law_addresses" 902 (.ref 568) :: en P "_law_prefixes" 908 (.ref 573) :: en P "_law_asked" 919 (.ref 580) :: en P "_law_drawn" 925 (.ref 585) :: en P "_law_rows" 931 (.ref 590) :: en P "_law_row" 943 (.ref 597) :: en P "_law_parts" 949 (.ref 602) :: en P "_law_made" 959 (.ref 609) :: en P "_law_links" 965 (.ref 614) :: en P "_law_behind" 971 (.ref 619) :: en P "_law_walked" 983 (.ref 626) :: en P "_law_none" 994 (.ref 633) :: en P "_law_long" 1000 (.ref 638) :: en P "_law_right" 1014 (.ref 645) :: en P "law" 1020 (.ref 650) :: r
noncomputable def o3 (P : Params) : Obj := { cls := .type "dict", data := .dict (List.toArray (n4 P (n1 P (n3 P (n5 P ([])))))) 56 }
noncomputable def o12 : Obj := { cls := .none, data := .fields #[.int 1 0, .int 0 0, .ref 20, .int 5 0, .int 0 0, .ref 27, .int 7 0, .int 0 0, .ref 40, .int 12 0, .int 0 0, .ref 59, .int 17 0, .int 0 0, .ref 78, .int 22 0, .int 0 0, .ref 97, .int 27 0, .int 0 0, .ref 116, .int 33 0, .int 0 0, .ref 133, .int 36 0, .int 0 0, .ref 140, .int 39 0, .int 0 0, .ref 147, .int 49 0, .int 0 0, .ref 182, .int 60 0, .int 0 0, .ref 215, .int 71 0, .int 0 0, .ref 248, .int 85 0, .int 0 0, .ref 288, .int 99 0, .int 0 0, .ref 328, .int 114 0, .int 0 0, .ref 368, .int 122 0, .int 0 0, .ref 394, .int 129 0, .int 0 0, .ref 399, .int 135 0, .int 0 0, .ref 406, .int 140 0, .int 0 0, .ref 413, .int 149 0, .int 0 0, .ref 420, .int 152 0, .int 0 0, .ref 427, .int 155 0, .int 0 0, .ref 434, .int 172 0, .int 0 0, .ref 441, .int 175 0, .int 0 0, .ref 446, .int 177 0, .int 0 0, .ref 451, .int 188 0, .int 0 0, .ref 458, .int 212 0, .int 0 0, .ref 510, .int 228 0, .int 0 0, .ref 550, .int 232 0, .int 0 0, .ref 557, .int 241 0, .int 0 0, .ref 562, .int 254 0, .int 0 0, .ref 567, .int 267 0, .int 0 0, .ref 572, .int 270 0, .int 0 0, .ref 579, .int 278 0, .int 0 0, .ref 584, .int 291 0, .int 0 0, .ref 589, .int 303 0, .int 0 0, .ref 596, .int 319 0, .int 0 0, .ref 601, .int 321 0, .int 0 0, .ref 608, .int 328 0, .int 0 0, .ref 613, .int 336 0, .int 0 0, .ref 618, .int 349 0, .int 0 0, .ref 625, .int 358 0, .int 0 0, .ref 632, .int 364 0, .int 0 0, .ref 637, .int 374 0, .int 0 0, .ref 644, .int 393 0, .int 0 0, .ref 649] }
noncomputable def Ov : Obj := { cls := .type "builtin_function_or_method", data := .fields #[.builtin "type.__prepare__", .type "type"] }
noncomputable def Om (P : Params) : Obj := { cls := .type "dict", data := .dict #[en P "__module__" 824 (.str "drawhouse.parts" 815), en P "__qualname__" 826 (.str "Part" 825), en P "__firstlineno__" 828 (.int 212 827), en P "__init__" 837 (.ref 518), en P "bound" 843 (.ref 523), en P "place_of" 851 (.ref 530), en P "text" 858 (.ref 537), en P "__static_attributes__" 861 (.ref 538)] 8 }
noncomputable def J5 : Obj := { cls := .none, data := .fields #[.int 214 0, .int 4 0, .ref 517, .int 218 0, .int 4 0, .ref 522, .int 222 0, .int 4 0, .ref 529, .int 225 0, .int 4 0, .ref 536] }
noncomputable def RG : Obj := { cls := .type "code", data := .fields #[.str "Part" 819, .str "Part" 820, .str "/claim/cut.py" 821, .int 212 0, .int 0 0, .int 0 0, .int 0 0, .int 0 0, .ref 508, .bool false, .int 181 0, .ref 509, .none, .none, .none, .none, .int 822 0, .int 212 0, .str "/claim/cut.py" 823] }
noncomputable def Rt : Obj := { cls := .type "frame", slots := #[some (.ref 510), some (.ref 3), some (.ref 507), none, some (.str "drawhouse.parts" 815), none, some (.ref 0)] }
noncomputable def Q9 : Obj := tu [.str "self" 832, .str "address" 833, .str "rows" 834]
noncomputable def QV : Obj := pf ((Mine.aC (Mine.top 34)).getD 0 (.Pass ⟨0, 0, 0, 0⟩)) "__init__" "Part.__init__"
noncomputable def Qn : Obj := pf ((Mine.aC (Mine.top 34)).getD 1 (.Pass ⟨0, 0, 0, 0⟩)) "bound" "Part.bound"
noncomputable def K5 : Obj := tu [.str "self" 847, .str "name" 848]
noncomputable def K3 : Obj := pf ((Mine.aC (Mine.top 34)).getD 2 (.Pass ⟨0, 0, 0, 0⟩)) "place_of" "Part.place_of"
noncomputable def KZ : Obj := tu [.str "self" 855]
noncomputable def Ml : Obj := pf ((Mine.aC (Mine.top 34)).getD 3 (.Pass ⟨0, 0, 0, 0⟩)) "text" "Part.text"
noncomputable def Js : Obj := tu [.str "address" 859, .str "rows" 860]
noncomputable def Oe : Obj := { cls := .type "super", data := .fields #[.ref 540, .ref 540, .ref 540] }
noncomputable def PQ : Obj := { cls := .type "builtin_function_or_method", data := .fields #[.builtin "object.__init_subclass__", .ref 540] }
noncomputable def N8 : Obj := tu [.str "_law_script" 874, .str "_law_k" 875]
noncomputable def Rv : Obj := pf (Mine.top 36) "_law_cell" "_law_cell"
noncomputable def Q5 : Obj := tu [.str "_law_cell_here" 882, .str "_law_k" 883, .str "_law_many" 884, .str "_law_great" 885, .str "_law_by" 886, .str "_law_one" 887]
noncomputable def Ot : Obj := pf (Mine.top 37) "_law_pick" "_law_pick"
noncomputable def M5 : Obj := pf (Mine.top 38) "_law_words" "_law_words"
noncomputable def Ox : Obj := pf (Mine.top 39) "_law_addresses" "_law_addresses"
noncomputable def O9 : Obj := pf (Mine.top 40) "_law_prefixes" "_law_prefixes"
noncomputable def QQ : Obj := tu [.str "_law_cell_here" 912, .str "_law_addresses_here" 913, .str "_law_words_here" 914, .str "_law_address" 915, .str "_law_word" 916]
noncomputable def Le : Obj := pf (Mine.top 41) "_law_asked" "_law_asked"
noncomputable def Oa : Obj := pf (Mine.top 42) "_law_drawn" "_law_drawn"
noncomputable def My : Obj := pf (Mine.top 43) "_law_rows" "_law_rows"
noncomputable def QG : Obj := tu [.str "_law_row_here" 935, .str "_law_sort" 936, .str "_law_name" 937, .str "_law_address" 938, .str "_law_word" 939, .str "_law_terms" 940]
noncomputable def Lx : Obj := pf (Mine.top 44) "_law_row" "_law_row"
noncomputable def o600 : Obj := pf (Mine.top 45) "_law_parts" "_law_parts"
noncomputable def Pq : Obj := tu [.str "_law_script" 953, .str "_law_words_here" 954, .str "_law_many" 955, .str "_law_addresses_here" 956]
noncomputable def Mv : Obj := pf (Mine.top 46) "_law_made" "_law_made"
noncomputable def Ob : Obj := pf (Mine.top 47) "_law_links" "_law_links"
noncomputable def JN : Obj := pf (Mine.top 48) "_law_behind" "_law_behind"
noncomputable def J8 : Obj := tu [.str "_law_found" 975, .str "_law_one" 976, .str "_law_other" 977, .str "_law_addresses_here" 978, .str "_law_rows_here" 979, .str "_law_k" 980]
noncomputable def M3 : Obj := pf (Mine.top 49) "_law_walked" "_law_walked"
noncomputable def KJ : Obj := tu [.str "_law_house" 987, .str "_law_one" 988, .str "_law_other" 989, .str "_law_due" 990, .str "e" 991]
noncomputable def Jk : Obj := pf (Mine.top 50) "_law_none" "_law_none"
noncomputable def Qd : Obj := pf (Mine.top 51) "_law_long" "_law_long"
noncomputable def Qa : Obj := tu [.str "_law_house" 1004, .str "_law_addresses_here" 1005, .str "_law_rows_here" 1006, .str "_law_behind_here" 1007, .str "_law_one" 1008, .str "_law_found" 1009, .str "_law_other" 1010, .str "_law_told" 1011]
noncomputable def NQ : Obj := pf (Mine.top 52) "_law_right" "_law_right"
noncomputable def O8 : Obj := pf (Mine.top 53) "law" "law"
noncomputable def TF (P : Params) : BT := bG (t3 P) ((3, o3 P) :: (12, o12) :: (505, eT) :: (506, Ov) :: (507, Om P) :: (508, eT) :: (509, J5) :: (510, RG) :: (511, Rt) :: (512, eT) :: (513, eF) :: (514, Q9) :: [])
noncomputable def SQ (P : Params) : BT := bG (TF P) ((515, eT) :: (516, QV) :: (517, Mine.k517) :: (518, Mine.k518) :: (519, eT) :: (520, eF) :: (521, Qn) :: (522, Mine.k522) :: (523, Mine.k523) :: (524, eT) :: (525, eF) :: (526, K5) :: [])
noncomputable def Ue (P : Params) : BT := bG (SQ P) ((527, eT) :: (528, K3) :: (529, Mine.k529) :: (530, Mine.k530) :: (531, eT) :: (532, eF) :: (533, KZ) :: (534, eT) :: (535, Ml) :: (536, Mine.k536) :: (537, Mine.k537) :: (538, Js) :: [])
noncomputable def Ul (P : Params) : BT := bG (Ue P) ((539, Mine.k539 P) :: (540, Mine.k540) :: (541, Mine.k541) :: (542, Mine.k542) :: (543, Oe) :: (544, PQ) :: (545, eT) :: (546, eF) :: (547, N8) :: (548, eT) :: (549, Rv) :: (550, Mine.k550) :: [])
noncomputable def SJ (P : Params) : BT := bG (Ul P) ((551, Mine.k551) :: (552, eT) :: (553, eF) :: (554, Q5) :: (555, eT) :: (556, Ot) :: (557, Mine.k557) :: (558, Mine.k558) :: (559, eT) :: (560, eF) :: (561, M5) :: (562, Mine.k562) :: [])
noncomputable def Tu (P : Params) : BT := bG (SJ P) ((563, Mine.k563) :: (564, eT) :: (565, eF) :: (566, Ox) :: (567, Mine.k567) :: (568, Mine.k568) :: (569, eT) :: (570, eF) :: (571, O9) :: (572, Mine.k572) :: (573, Mine.k573) :: (574, eT) :: [])
noncomputable def Ud (P : Params) : BT := bG (Tu P) ((575, eF) :: (576, QQ) :: (577, eT) :: (578, Le) :: (579, Mine.k579) :: (580, Mine.k580) :: (581, eT) :: (582, eF) :: (583, Oa) :: (584, Mine.k584) :: (585, Mine.k585) :: (586, eT) :: [])
noncomputable def Ug (P : Params) : BT := bG (Ud P) ((587, eF) :: (588, My) :: (589, Mine.k589) :: (590, Mine.k590) :: (591, eT) :: (592, eF) :: (593, QG) :: (594, eT) :: (595, Lx) :: (596, Mine.k596) :: (597, Mine.k597) :: (598, eT) :: [])
noncomputable def Tr (P : Params) : BT := bG (Ug P) ((599, eF) :: (600, o600) :: (601, Mine.k601) :: (602, Mine.k602) :: (603, eT) :: (604, eF) :: (605, Pq) :: (606, eT) :: (607, Mv) :: (608, Mine.k608) :: (609, Mine.k609) :: (610, eT) :: [])
noncomputable def RW (P : Params) : BT := bG (Tr P) ((611, eF) :: (612, Ob) :: (613, Mine.k613) :: (614, Mine.k614) :: (615, eT) :: (616, eF) :: (617, JN) :: (618, Mine.k618) :: (619, Mine.k619) :: (620, eT) :: (621, eF) :: (622, J8) :: [])
noncomputable def QM (P : Params) : BT := bG (RW P) ((623, eT) :: (624, M3) :: (625, Mine.k625) :: (626, Mine.k626) :: (627, eT) :: (628, eF) :: (629, KJ) :: (630, eT) :: (631, Jk) :: (632, Mine.k632) :: (633, Mine.k633) :: (634, eT) :: [])
noncomputable def Rn (P : Params) : BT := bG (QM P) ((635, eF) :: (636, Qd) :: (637, Mine.k637) :: (638, Mine.k638) :: (639, eT) :: (640, eF) :: (641, Qa) :: (642, eT) :: (643, NQ) :: (644, Mine.k644) :: (645, Mine.k645) :: (646, eT) :: [])
noncomputable def t4 (P : Params) : BT := bG (Rn P) ((647, eF) :: (648, O8) :: (649, Mine.k649) :: (650, Mine.k650) :: [])
noncomputable def L3 (w : World) (os : OsState) : Option (Flow × SharedT × Code × Pos) := segRunT treeTable PySem.Challenge.pw_drawhouse_k34_leads_and_ways w 11 (some (Value.ref 6)) 1 851 ⟨t3 w.params, nat_lit 505, { }, Array.mk [], { }, nat_lit 817, os⟩ (piecesOf (sl 34 20) env cE { line := 211, col := 0, endLine := 211, endCol := 8 } fr)
noncomputable def R3 (w : World) (os : OsState) : Option (Flow × SharedT × Code × Pos) := some (.next, ⟨t4 w.params, nat_lit 651, { }, Array.mk [], { }, nat_lit 1021, os⟩, cE, { line := 393, col := 0, endLine := 405, endCol := 114 })
theorem rL3 : L3 = L3 := rfl
name_quick L3 for Hd.L3 by Hd.rL3
theorem rR3 : R3 = R3 := rfl
name_quick R3 for Hd.R3 by Hd.rR3
theorem q3 : PySem.W.Fast.L3 = PySem.W.Fast.R3 := by kernel_rfl
theorem e3 : L3 = R3 := PySem.W.Fast.L3_eq.trans (q3.trans PySem.W.Fast.R3_eq.symm)
noncomputable def hF0 (P : Params) (r : List Obj) : List Obj := (boot_o_0 P) :: (boot_o_1 P) :: (boot_o_2 P) :: (o3 P) :: (boot_o_4 P) :: (boot_o_5 P) :: (boot_o_6 P) :: (boot_o_7 P) :: (boot_o_8 P) :: (boot_o_9 P) :: (boot_o_10 P) :: eT :: o12 :: o13 :: o14 :: eT :: r
noncomputable def SX (P : Params) (r : List Obj) : List Obj := eF :: o17 :: eT :: o19 :: Mine.k20 :: Mine.k21 :: o22 :: o23 :: (o24 P) :: eT :: eF :: o27 :: o28 :: eT :: (Mine.k30 P) :: Mine.k31 :: r
noncomputable def Up (P : Params) (r : List Obj) : List Obj := Mine.k32 :: o33 :: o34 :: o35 :: o36 :: (o37 P) :: eT :: o39 :: o40 :: o41 :: eT :: eF :: o44 :: eT :: o46 :: Mine.k47 :: r
noncomputable def S5 (P : Params) (r : List Obj) : List Obj := Mine.k48 :: o49 :: (Mine.k50 P) :: Mine.k51 :: o52 :: o53 :: o54 :: o55 :: (o56 P) :: eT :: o58 :: o59 :: o60 :: eT :: eF :: o63 :: r
noncomputable def S8 (P : Params) (r : List Obj) : List Obj := eT :: o65 :: Mine.k66 :: Mine.k67 :: o68 :: (Mine.k69 P) :: Mine.k70 :: o71 :: o72 :: o73 :: o74 :: (o75 P) :: eT :: o77 :: o78 :: o79 :: r
noncomputable def T3 (P : Params) (r : List Obj) : List Obj := eT :: eF :: o82 :: eT :: o84 :: Mine.k85 :: Mine.k86 :: o87 :: (Mine.k88 P) :: Mine.k89 :: o90 :: o91 :: o92 :: o93 :: (o94 P) :: eT :: r
noncomputable def Sg (P : Params) (r : List Obj) : List Obj := o96 :: o97 :: o98 :: eT :: eF :: Oh :: eT :: KD :: Mine.k104 :: Mine.k105 :: MP :: (Mine.k107 P) :: Mine.k108 :: Jb :: Ny :: o111 :: r
noncomputable def Oo (P : Params) (r : List Obj) : List Obj := JH :: (JM P) :: eT :: NZ :: MK :: NK :: eT :: eF :: Mh :: eT :: Jy :: Mine.k123 :: Mine.k124 :: Ly :: (Mine.k126 P) :: Mine.k127 :: r
noncomputable def M9 (P : Params) (r : List Obj) : List Obj := K1 :: Ry :: eT :: eF :: QB :: Mine.k133 :: Mine.k134 :: eT :: eF :: LR :: eT :: Qq :: Mine.k140 :: Mine.k141 :: eT :: K8 :: r
noncomputable def JB (P : Params) (r : List Obj) : List Obj := (Ku P) :: eT :: QW :: Jp :: Oi :: eT :: eF :: Nf :: eT :: M4 :: Mine.k154 :: Mine.k155 :: eT :: eF :: RC :: eT :: r
noncomputable def Jc (P : Params) (r : List Obj) : List Obj := O1 :: Mine.k161 :: Mine.k162 :: eT :: eF :: Kp :: eT :: O5 :: Mine.k168 :: Mine.k169 :: eT :: (Mine.k171 P) :: Mine.k172 :: Mine.k173 :: Mine.k174 :: JP :: r
noncomputable def JV (P : Params) (r : List Obj) : List Obj := Ld :: Ri :: Oq :: (Jx P) :: eT :: KC :: Rw :: KY :: eT :: eF :: K7 :: eT :: Nm :: Mine.k189 :: Mine.k190 :: eT :: r
noncomputable def Mw (P : Params) (r : List Obj) : List Obj := eF :: Mg :: eT :: Ni :: Mine.k196 :: Mine.k197 :: eT :: eF :: o200 :: eT :: Ln :: Mine.k203 :: Mine.k204 :: Qi :: (Mine.k206 P) :: Mine.k207 :: r
noncomputable def Nq (P : Params) (r : List Obj) : List Obj := Kf :: RK :: Ma :: Li :: (Jh P) :: eT :: Nz :: Jl :: JK :: eT :: eF :: Rc :: eT :: Jm :: Mine.k222 :: Mine.k223 :: r
noncomputable def Pr (P : Params) (r : List Obj) : List Obj := eT :: eF :: QR :: eT :: MF :: Mine.k229 :: Mine.k230 :: eT :: eF :: Qk :: eT :: JW :: Mine.k236 :: Mine.k237 :: La :: (Mine.k239 P) :: r
noncomputable def Q8 (P : Params) (r : List Obj) : List Obj := Mine.k240 :: Kr :: Rx :: KH :: Qs :: (JG P) :: eT :: Ms :: Rh :: Qz :: eT :: eF :: JD :: eT :: JQ :: Mine.k255 :: r
noncomputable def Q3 (P : Params) (r : List Obj) : List Obj := Mine.k256 :: eT :: eF :: QZ :: eT :: QX :: Mine.k262 :: Mine.k263 :: eT :: eF :: Qm :: eT :: RM :: Mine.k269 :: Mine.k270 :: eT :: r
noncomputable def Q6 (P : Params) (r : List Obj) : List Obj := eF :: Nv :: eT :: Og :: Mine.k276 :: Mine.k277 :: Lq :: (Mine.k279 P) :: Mine.k280 :: Kw :: N7 :: Rr :: JF :: (O2 P) :: eT :: Jz :: r
noncomputable def Lw (P : Params) (r : List Obj) : List Obj := JR :: QD :: eT :: eF :: K6 :: eT :: Rm :: Mine.k295 :: Mine.k296 :: eT :: eF :: Ka :: eT :: Qp :: Mine.k302 :: Mine.k303 :: r
noncomputable def JT (P : Params) (r : List Obj) : List Obj := eT :: eF :: Mj :: eT :: Ji :: Mine.k309 :: Mine.k310 :: eT :: eF :: Py :: eT :: QH :: Mine.k316 :: Mine.k317 :: J3 :: (Mine.k319 P) :: r
noncomputable def QC (P : Params) (r : List Obj) : List Obj := Mine.k320 :: NT :: Qt :: Px :: Pk :: (Pj P) :: eT :: Qo :: MN :: Jr :: eT :: eF :: Qj :: eT :: Jg :: Mine.k335 :: r
noncomputable def K4 (P : Params) (r : List Obj) : List Obj := Mine.k336 :: eT :: eF :: Lk :: eT :: O7 :: Mine.k342 :: Mine.k343 :: eT :: eF :: Ou :: eT :: Rk :: Mine.k349 :: Mine.k350 :: eT :: r
noncomputable def Jt (P : Params) (r : List Obj) : List Obj := eF :: JC :: eT :: M7 :: Mine.k356 :: Mine.k357 :: QL :: (Mine.k359 P) :: Mine.k360 :: Od :: Oz :: Kz :: O4 :: (Mf P) :: eT :: Mm :: r
noncomputable def Mp (P : Params) (r : List Obj) : List Obj := Jd :: Kq :: eT :: eF :: LQ :: eT :: Mr :: Mine.k375 :: Mine.k376 :: eT :: eF :: Mx :: eT :: Rg :: Mine.k382 :: Mine.k383 :: r
noncomputable def J9 (P : Params) (r : List Obj) : List Obj := Ru :: (Mine.k385 P) :: Mine.k386 :: LC :: Nt :: eT :: eF :: Ks :: eT :: PN :: Mine.k394 :: Mine.k395 :: eT :: eF :: Qv :: Mine.k399 :: r
noncomputable def Q7 (P : Params) (r : List Obj) : List Obj := Mine.k400 :: eT :: eF :: Rq :: eT :: NP :: Mine.k406 :: Mine.k407 :: eT :: eF :: Nk :: eT :: RD :: Mine.k413 :: Mine.k414 :: eT :: r
noncomputable def Pz (P : Params) (r : List Obj) : List Obj := eF :: RL :: eT :: P0 :: Mine.k420 :: Mine.k421 :: eT :: eF :: Ra :: eT :: Qy :: Mine.k427 :: Mine.k428 :: eT :: eF :: Qe :: r
noncomputable def QJ (P : Params) (r : List Obj) : List Obj := eT :: Qc :: Mine.k434 :: Mine.k435 :: eT :: eF :: Kh :: eT :: J6 :: Mine.k441 :: Mine.k442 :: eT :: eF :: J2 :: Mine.k446 :: Mine.k447 :: r
noncomputable def PB (P : Params) (r : List Obj) : List Obj := eT :: eF :: JX :: Mine.k451 :: Mine.k452 :: eT :: Qg :: (Mz P) :: eT :: Pb :: QF :: Ow :: eT :: eF :: M8 :: eT :: r
noncomputable def Km (P : Params) (r : List Obj) : List Obj := RB :: Mine.k465 :: Mine.k466 :: eT :: eF :: Qu :: Mine.k470 :: Mine.k471 :: eT :: eF :: Rj :: Mine.k475 :: Mine.k476 :: eT :: eF :: QK :: r
noncomputable def Lz (P : Params) (r : List Obj) : List Obj := eT :: Jo :: Mine.k482 :: Mine.k483 :: eT :: eF :: JZ :: eT :: O6 :: Mine.k489 :: Mine.k490 :: eT :: eF :: Nj :: eT :: Jw :: r
noncomputable def Pg (P : Params) (r : List Obj) : List Obj := Mine.k496 :: Mine.k497 :: Jq :: (Mine.k499 P) :: Mine.k500 :: Mine.k501 :: Mine.k502 :: KQ :: Ro :: eT :: Ov :: (Om P) :: eT :: J5 :: RG :: Rt :: r
noncomputable def Ol (P : Params) (r : List Obj) : List Obj := eT :: eF :: Q9 :: eT :: QV :: Mine.k517 :: Mine.k518 :: eT :: eF :: Qn :: Mine.k522 :: Mine.k523 :: eT :: eF :: K5 :: eT :: r
noncomputable def PL (P : Params) (r : List Obj) : List Obj := K3 :: Mine.k529 :: Mine.k530 :: eT :: eF :: KZ :: eT :: Ml :: Mine.k536 :: Mine.k537 :: Js :: (Mine.k539 P) :: Mine.k540 :: Mine.k541 :: Mine.k542 :: Oe :: r
noncomputable def Ko (P : Params) (r : List Obj) : List Obj := PQ :: eT :: eF :: N8 :: eT :: Rv :: Mine.k550 :: Mine.k551 :: eT :: eF :: Q5 :: eT :: Ot :: Mine.k557 :: Mine.k558 :: eT :: r
noncomputable def Mq (P : Params) (r : List Obj) : List Obj := eF :: M5 :: Mine.k562 :: Mine.k563 :: eT :: eF :: Ox :: Mine.k567 :: Mine.k568 :: eT :: eF :: O9 :: Mine.k572 :: Mine.k573 :: eT :: eF :: r
noncomputable def Qw (P : Params) (r : List Obj) : List Obj := QQ :: eT :: Le :: Mine.k579 :: Mine.k580 :: eT :: eF :: Oa :: Mine.k584 :: Mine.k585 :: eT :: eF :: My :: Mine.k589 :: Mine.k590 :: eT :: r
noncomputable def KN (P : Params) (r : List Obj) : List Obj := eF :: QG :: eT :: Lx :: Mine.k596 :: Mine.k597 :: eT :: eF :: o600 :: Mine.k601 :: Mine.k602 :: eT :: eF :: Pq :: eT :: Mv :: r
noncomputable def Jv (P : Params) (r : List Obj) : List Obj := Mine.k608 :: Mine.k609 :: eT :: eF :: Ob :: Mine.k613 :: Mine.k614 :: eT :: eF :: JN :: Mine.k618 :: Mine.k619 :: eT :: eF :: J8 :: eT :: r
noncomputable def J7 (P : Params) (r : List Obj) : List Obj := M3 :: Mine.k625 :: Mine.k626 :: eT :: eF :: KJ :: eT :: Jk :: Mine.k632 :: Mine.k633 :: eT :: eF :: Qd :: Mine.k637 :: Mine.k638 :: eT :: r
noncomputable def Jf (P : Params) (r : List Obj) : List Obj := eF :: Qa :: eT :: NQ :: Mine.k644 :: Mine.k645 :: eT :: eF :: O8 :: Mine.k649 :: Mine.k650 :: r
noncomputable def hF (P : Params) : Heap := ⟨Array.mk (hF0 P (SX P (Up P (S5 P (S8 P (T3 P (Sg P (Oo P (M9 P (JB P (Jc P (JV P (Mw P (Nq P (Pr P (Q8 P (Q3 P (Q6 P (Lw P (JT P (QC P (K4 P (Jt P (Mp P (J9 P (Q7 P (Pz P (QJ P (PB P (Km P (Lz P (Pg P (Ol P (PL P (Ko P (Mq P (Qw P (KN P (Jv P (J7 P (Jf P ([])))))))))))))))))))))))))))))))))))))))))), { }⟩
noncomputable def Lf (w : World) (os : OsState) : Option Shared := topRun treeTable PySem.Challenge.pw_drawhouse_k34_leads_and_ways w 11 (some (Value.ref 6)) 2 (SharedT.abs ⟨t4 w.params, nat_lit 651, { }, Array.mk [], { }, nat_lit 1021, os⟩) ⟨doneF .next, cE, { line := 393, col := 0, endLine := 405, endCol := 114 }, fr⟩
noncomputable def Rf (w : World) (os : OsState) : Option Shared := some ⟨hF w.params, Array.mk [], { }, nat_lit 1021, os⟩
theorem rLf : Lf = Lf := rfl
name_quick Lf for Hd.Lf by Hd.rLf
theorem rRf : Rf = Rf := rfl
name_quick Rf for Hd.Rf by Hd.rRf
theorem qf : PySem.W.Fast.Lf = PySem.W.Fast.Rf := by kernel_rfl
theorem ef : Lf = Rf := PySem.W.Fast.Lf_eq.trans (qf.trans PySem.W.Fast.Rf_eq.symm)
theorem ed : (behindTheImports PySem.Challenge.pw_drawhouse_k34_leads_and_ways).drop 54 = [] := by kernel_rfl
theorem pd {w : World} {k m n N : Nat} {s s' r : Shared} {c : Code} {pos p' : Pos} (h : segRun treeTable PySem.Challenge.pw_drawhouse_k34_leads_and_ways w 11 (some (Value.ref 6)) 1 n s (piecesOf (sl k m) env c pos fr) = some (.next, s', c, p'))
  (k2 : topRun treeTable PySem.Challenge.pw_drawhouse_k34_leads_and_ways w 11 (some (Value.ref 6)) N s' (restOf ((behindTheImports PySem.Challenge.pw_drawhouse_k34_leads_and_ways).drop (k + m)) env c p' fr) = some r) : topRun treeTable PySem.Challenge.pw_drawhouse_k34_leads_and_ways w 11 (some (Value.ref 6)) (n + N) s (restOf ((behindTheImports PySem.Challenge.pw_drawhouse_k34_leads_and_ways).drop k) env c pos fr) = some r := by
 have z := piece_app h k2
 have e : sl k m ++ (behindTheImports PySem.Challenge.pw_drawhouse_k34_leads_and_ways).drop (k + m) = (behindTheImports PySem.Challenge.pw_drawhouse_k34_leads_and_ways).drop k := by
  unfold sl
  rw [← List.drop_drop]
  exact List.take_append_drop m _
 rwa [e] at z
theorem run (w : World) (os : OsState) : topRun treeTable PySem.Challenge.pw_drawhouse_k34_leads_and_ways w 11 (some (Value.ref 6)) (12 + (1 + (1523 + (1581 + (1330 + (851 + (2))))))) ⟨boot_heap w.params, Array.mk [], boot_drawn, boot_toks, os⟩ (topStub PySem.Challenge.pw_drawhouse_k34_leads_and_ways) = some ⟨hF w.params, Array.mk [], { }, nat_lit 1021, os⟩ :=
 go_top (congrFun (congrFun ep w) os) (piece_block (congrFun (congrFun eb w) os)
  (pd (k := 0) (m := 12) (segRun_of (congrFun (congrFun e0 w) os))
  (pd (k := 12) (m := 5) (segRun_of (congrFun (congrFun e1 w) os))
  (pd (k := 17) (m := 17) (segRun_of (congrFun (congrFun e2 w) os))
  (pd (k := 34) (m := 20) (segRun_of (congrFun (congrFun e3 w) os))
  (by rw [show 34 + 20 = 54 from rfl, ed]; exact piece_nil (congrFun (congrFun ef w) os)))))))
noncomputable def qv : Program := { PySem.Challenge.pw_drawhouse_k34_leads_and_ways with main := { PySem.Challenge.pw_drawhouse_k34_leads_and_ways.main with body := (0 :: 2 :: 3 :: 4 :: 5 :: 6 :: 7 :: 9 :: 10 :: 12 :: 13 :: 14 :: 15 :: 16 :: 17 :: 18 :: 20 :: 21 :: 22 :: 23 :: 24 :: 25 :: 26 :: 28 :: 29 :: 30 :: 31 :: 32 :: 34 :: 36 :: 37 :: 38 :: 39 :: 40 :: 41 :: 42 :: 43 :: 44 :: 45 :: 46 :: 47 :: 48 :: 49 :: 50 :: 51 :: 52 :: 53 :: []).filterMap fun i => PySem.Challenge.pw_drawhouse_k34_leads_and_ways.main.body[i]? } }
noncomputable def loose : List Str := []
noncomputable def lv : List (Str × WData) := []
noncomputable def xt (s : Shared) : Bool := xlAt qv lv s && recOk (RowW.records (OpenRow.toRowW (OpenLaw.row PySem.Challenge.rw_drawhouse_k34_leads_and_ways))) s
noncomputable def as : List Addr := nat_lit 2 :: nat_lit 3 :: nat_lit 20 :: nat_lit 21 :: nat_lit 30 :: nat_lit 31 :: nat_lit 32 :: nat_lit 47 :: nat_lit 48 :: nat_lit 50 :: nat_lit 51 :: nat_lit 66 :: nat_lit 67 :: nat_lit 69 :: nat_lit 70 :: nat_lit 85 :: nat_lit 86 :: nat_lit 88 :: nat_lit 89 :: nat_lit 104 :: nat_lit 105 :: nat_lit 107 :: nat_lit 108 :: nat_lit 123 :: nat_lit 124 :: nat_lit 126 :: nat_lit 127 :: nat_lit 133 :: nat_lit 134 :: nat_lit 140 :: nat_lit 141 :: nat_lit 154 :: nat_lit 155 :: nat_lit 161 :: nat_lit 162 :: nat_lit 168 :: nat_lit 169 :: nat_lit 171 :: nat_lit 172 :: nat_lit 173 :: nat_lit 174 :: nat_lit 189 :: nat_lit 190 :: nat_lit 196 :: nat_lit 197 :: nat_lit 203 :: nat_lit 204 :: nat_lit 206 :: nat_lit 207 :: nat_lit 222 :: nat_lit 223 :: nat_lit 229 :: nat_lit 230 :: nat_lit 236 :: nat_lit 237 :: nat_lit 239 :: nat_lit 240 :: nat_lit 255 :: nat_lit 256 :: nat_lit 262 :: nat_lit 263 :: nat_lit 269 :: nat_lit 270 :: nat_lit 276 :: nat_lit 277 :: nat_lit 279 :: nat_lit 280 :: nat_lit 295 :: nat_lit 296 :: nat_lit 302 :: nat_lit 303 :: nat_lit 309 :: nat_lit 310 :: nat_lit 316 :: nat_lit 317 :: nat_lit 319 :: nat_lit 320 :: nat_lit 335 :: nat_lit 336 :: nat_lit 342 :: nat_lit 343 :: nat_lit 349 :: nat_lit 350 :: nat_lit 356 :: nat_lit 357 :: nat_lit 359 :: nat_lit 360 :: nat_lit 375 :: nat_lit 376 :: nat_lit 382 :: nat_lit 383 :: nat_lit 385 :: nat_lit 386 :: nat_lit 394 :: nat_lit 395 :: nat_lit 399 :: nat_lit 400 :: nat_lit 406 :: nat_lit 407 :: nat_lit 413 :: nat_lit 414 :: nat_lit 420 :: nat_lit 421 :: nat_lit 427 :: nat_lit 428 :: nat_lit 434 :: nat_lit 435 :: nat_lit 441 :: nat_lit 442 :: nat_lit 446 :: nat_lit 447 :: nat_lit 451 :: nat_lit 452 :: nat_lit 465 :: nat_lit 466 :: nat_lit 470 :: nat_lit 471 :: nat_lit 475 :: nat_lit 476 :: nat_lit 482 :: nat_lit 483 :: nat_lit 489 :: nat_lit 490 :: nat_lit 496 :: nat_lit 497 :: nat_lit 499 :: nat_lit 500 :: nat_lit 501 :: nat_lit 502 :: nat_lit 517 :: nat_lit 518 :: nat_lit 522 :: nat_lit 523 :: nat_lit 529 :: nat_lit 530 :: nat_lit 536 :: nat_lit 537 :: nat_lit 539 :: nat_lit 540 :: nat_lit 541 :: nat_lit 542 :: nat_lit 550 :: nat_lit 551 :: nat_lit 557 :: nat_lit 558 :: nat_lit 562 :: nat_lit 563 :: nat_lit 567 :: nat_lit 568 :: nat_lit 572 :: nat_lit 573 :: nat_lit 579 :: nat_lit 580 :: nat_lit 584 :: nat_lit 585 :: nat_lit 589 :: nat_lit 590 :: nat_lit 596 :: nat_lit 597 :: nat_lit 601 :: nat_lit 602 :: nat_lit 608 :: nat_lit 609 :: nat_lit 613 :: nat_lit 614 :: nat_lit 618 :: nat_lit 619 :: nat_lit 625 :: nat_lit 626 :: nat_lit 632 :: nat_lit 633 :: nat_lit 637 :: nat_lit 638 :: nat_lit 644 :: nat_lit 645 :: nat_lit 649 :: nat_lit 650 :: []
theorem ke (P : Params) : as = (Mine.myK P).map (·.1) := by kernel_rfl
noncomputable def Ls (w : World) : Bool × Nat × Option Value := ((boot_heap w.params).isNs mainGlobals && (Array.mk [] : Array GenState).size == 0, (boot_heap w.params).objs.size, (boot_heap w.params).nsMap mainGlobals "__annotations__")
noncomputable def Rs (w : World) : Bool × Nat × Option Value := (true, 11, some (Value.ref 6))
theorem es : Ls = Rs := by kernel_rfl
noncomputable def Lk0 (w : World) (os : OsState) : Bool := staticsOk (importedModules PySem.Challenge.pw_drawhouse_k34_leads_and_ways.main.body) (boot_heap w.params) (hF w.params) && namesBound PySem.Challenge.pw_drawhouse_k34_leads_and_ways (hF w.params) && gensDone ⟨hF w.params, Array.mk [], { }, nat_lit 1021, os⟩ && laidKept (boot_heap w.params) (hF w.params)
noncomputable def Rk0 (_ : World) (_ : OsState) : Bool := true
theorem rLk0 : Lk0 = Lk0 := rfl
name_quick Lk0 for Hd.Lk0 by Hd.rLk0
theorem qk0 : PySem.W.Fast.Lk0 = Rk0 := by kernel_rfl
theorem ek0 : Lk0 = Rk0 := PySem.W.Fast.Lk0_eq.trans qk0
noncomputable def Lk1 (w : World) (os : OsState) := (openSeen qv loose (importedModules PySem.Challenge.pw_drawhouse_k34_leads_and_ways.main.body) xt true ⟨hF w.params, Array.mk [], { }, nat_lit 1021, os⟩).1
noncomputable def Rk1 (_ : World) (_ : OsState) := (openGood qv loose).1
theorem rLk1 : Lk1 = Lk1 := rfl
name_quick Lk1 for Hd.Lk1 by Hd.rLk1
theorem rRk1 : Rk1 = Rk1 := rfl
name_quick Rk1 for Hd.Rk1 by Hd.rRk1
theorem qk1 : PySem.W.Fast.Lk1 = PySem.W.Fast.Rk1 := by kernel_rfl
theorem ek1 : Lk1 = Rk1 := PySem.W.Fast.Lk1_eq.trans (qk1.trans PySem.W.Fast.Rk1_eq.symm)
noncomputable def Lk2 (w : World) (os : OsState) := (openSeen qv loose (importedModules PySem.Challenge.pw_drawhouse_k34_leads_and_ways.main.body) xt true ⟨hF w.params, Array.mk [], { }, nat_lit 1021, os⟩).2.1
noncomputable def Rk2 (_ : World) (_ : OsState) := (openGood qv loose).2.1
theorem rLk2 : Lk2 = Lk2 := rfl
name_quick Lk2 for Hd.Lk2 by Hd.rLk2
theorem qk2 : PySem.W.Fast.Lk2 = Rk2 := by kernel_rfl
theorem ek2 : Lk2 = Rk2 := PySem.W.Fast.Lk2_eq.trans qk2
noncomputable def Lk3 (w : World) (os : OsState) := (openSeen qv loose (importedModules PySem.Challenge.pw_drawhouse_k34_leads_and_ways.main.body) xt true ⟨hF w.params, Array.mk [], { }, nat_lit 1021, os⟩).2.2.1
noncomputable def Rk3 (_ : World) (_ : OsState) := (openGood qv loose).2.2.1
theorem rLk3 : Lk3 = Lk3 := rfl
name_quick Lk3 for Hd.Lk3 by Hd.rLk3
theorem qk3 : PySem.W.Fast.Lk3 = Rk3 := by kernel_rfl
theorem ek3 : Lk3 = Rk3 := PySem.W.Fast.Lk3_eq.trans qk3
noncomputable def Lk4 (w : World) (os : OsState) := (openSeen qv loose (importedModules PySem.Challenge.pw_drawhouse_k34_leads_and_ways.main.body) xt true ⟨hF w.params, Array.mk [], { }, nat_lit 1021, os⟩).2.2.2.1
noncomputable def Rk4 (_ : World) (_ : OsState) := (openGood qv loose).2.2.2.1
theorem rLk4 : Lk4 = Lk4 := rfl
name_quick Lk4 for Hd.Lk4 by Hd.rLk4
theorem qk4 : PySem.W.Fast.Lk4 = Rk4 := by kernel_rfl
theorem ek4 : Lk4 = Rk4 := PySem.W.Fast.Lk4_eq.trans qk4
noncomputable def Lk5 (w : World) (os : OsState) := (openSeen qv loose (importedModules PySem.Challenge.pw_drawhouse_k34_leads_and_ways.main.body) xt true ⟨hF w.params, Array.mk [], { }, nat_lit 1021, os⟩).2.2.2.2.1
noncomputable def Rk5 (_ : World) (_ : OsState) := (openGood qv loose).2.2.2.2.1
theorem rLk5 : Lk5 = Lk5 := rfl
name_quick Lk5 for Hd.Lk5 by Hd.rLk5
theorem rRk5 : Rk5 = Rk5 := rfl
name_quick Rk5 for Hd.Rk5 by Hd.rRk5
theorem qk5 : PySem.W.Fast.Lk5 = PySem.W.Fast.Rk5 := by kernel_rfl
theorem ek5 : Lk5 = Rk5 := PySem.W.Fast.Lk5_eq.trans (qk5.trans PySem.W.Fast.Rk5_eq.symm)
noncomputable def Lk6 (w : World) (os : OsState) := (openSeen qv loose (importedModules PySem.Challenge.pw_drawhouse_k34_leads_and_ways.main.body) xt true ⟨hF w.params, Array.mk [], { }, nat_lit 1021, os⟩).2.2.2.2.2.1
noncomputable def Rk6 (_ : World) (_ : OsState) := (openGood qv loose).2.2.2.2.2.1
theorem rLk6 : Lk6 = Lk6 := rfl
name_quick Lk6 for Hd.Lk6 by Hd.rLk6
theorem rRk6 : Rk6 = Rk6 := rfl
name_quick Rk6 for Hd.Rk6 by Hd.rRk6
theorem qk6 : PySem.W.Fast.Lk6 = PySem.W.Fast.Rk6 := by kernel_rfl
theorem ek6 : Lk6 = Rk6 := PySem.W.Fast.Lk6_eq.trans (qk6.trans PySem.W.Fast.Rk6_eq.symm)
noncomputable def Lk7 (w : World) (os : OsState) := (openSeen qv loose (importedModules PySem.Challenge.pw_drawhouse_k34_leads_and_ways.main.body) xt true ⟨hF w.params, Array.mk [], { }, nat_lit 1021, os⟩).2.2.2.2.2.2.1
noncomputable def Rk7 (_ : World) (_ : OsState) := (openGood qv loose).2.2.2.2.2.2.1
theorem rLk7 : Lk7 = Lk7 := rfl
name_quick Lk7 for Hd.Lk7 by Hd.rLk7
theorem rRk7 : Rk7 = Rk7 := rfl
name_quick Rk7 for Hd.Rk7 by Hd.rRk7
theorem qk7 : PySem.W.Fast.Lk7 = PySem.W.Fast.Rk7 := by kernel_rfl
theorem ek7 : Lk7 = Rk7 := PySem.W.Fast.Lk7_eq.trans (qk7.trans PySem.W.Fast.Rk7_eq.symm)
noncomputable def Lk8 (w : World) (os : OsState) := (openSeen qv loose (importedModules PySem.Challenge.pw_drawhouse_k34_leads_and_ways.main.body) xt true ⟨hF w.params, Array.mk [], { }, nat_lit 1021, os⟩).2.2.2.2.2.2.2.1
noncomputable def Rk8 (_ : World) (_ : OsState) := (openGood qv loose).2.2.2.2.2.2.2.1
theorem rLk8 : Lk8 = Lk8 := rfl
name_quick Lk8 for Hd.Lk8 by Hd.rLk8
theorem rRk8 : Rk8 = Rk8 := rfl
name_quick Rk8 for Hd.Rk8 by Hd.rRk8
theorem qk8 : PySem.W.Fast.Lk8 = PySem.W.Fast.Rk8 := by kernel_rfl
theorem ek8 : Lk8 = Rk8 := PySem.W.Fast.Lk8_eq.trans (qk8.trans PySem.W.Fast.Rk8_eq.symm)
noncomputable def Lk9 (w : World) (os : OsState) := (openSeen qv loose (importedModules PySem.Challenge.pw_drawhouse_k34_leads_and_ways.main.body) xt true ⟨hF w.params, Array.mk [], { }, nat_lit 1021, os⟩).2.2.2.2.2.2.2.2
noncomputable def Rk9 (_ : World) (_ : OsState) := (openGood qv loose).2.2.2.2.2.2.2.2
theorem rLk9 : Lk9 = Lk9 := rfl
name_quick Lk9 for Hd.Lk9 by Hd.rLk9
theorem rRk9 : Rk9 = Rk9 := rfl
name_quick Rk9 for Hd.Rk9 by Hd.rRk9
theorem qk9 : PySem.W.Fast.Lk9 = PySem.W.Fast.Rk9 := by kernel_rfl
theorem ek9 : Lk9 = Rk9 := PySem.W.Fast.Lk9_eq.trans (qk9.trans PySem.W.Fast.Rk9_eq.symm)
noncomputable def S6 (w : World) (_ : OsState) : List (Option Obj) := as.map (hF w.params).get?
noncomputable def Us (w : World) (_ : OsState) : List (Option Obj) := (Mine.myK w.params).map fun p => some p.2
theorem Tw : S6 = Us := by kernel_rfl
theorem c {α : Type} {f g : World → OsState → α} (h : f = g) {w : World} {os : OsState} : f w os = g w os := h ▸ rfl
theorem ek (w : World) : (fun os => ((staticsOk (importedModules PySem.Challenge.pw_drawhouse_k34_leads_and_ways.main.body) (boot_heap w.params) (hF w.params) && namesBound PySem.Challenge.pw_drawhouse_k34_leads_and_ways (hF w.params) && gensDone ⟨hF w.params, Array.mk [], { }, nat_lit 1021, os⟩ && laidKept (boot_heap w.params) (hF w.params)), openSeen qv loose (importedModules PySem.Challenge.pw_drawhouse_k34_leads_and_ways.main.body) xt true ⟨hF w.params, Array.mk [], { }, nat_lit 1021, os⟩, Hook.obs (kHook Mine.myK as ke) ⟨hF w.params, Array.mk [], { }, nat_lit 1021, os⟩)) = fun _ => (true, openGood qv loose, Hook.val (kHook Mine.myK as ke) w) :=
 funext fun os => Prod.ext (congrFun (congrFun ek0 w) os) (Prod.ext (Prod.ext (c ek1) (Prod.ext (c ek2) (Prod.ext (c ek3) (Prod.ext (c ek4) (Prod.ext (c ek5) (Prod.ext (c ek6) (Prod.ext (c ek7) (Prod.ext (c ek8) (c ek9))))))))) (congrFun (congrFun Tw w) os))
theorem op : opening PySem.Challenge.pw_drawhouse_k34_leads_and_ways = plainProg PySem.Challenge.pw_drawhouse_k34_leads_and_ways.main.scope.names := by kernel_rfl
theorem fn (s : Shared) : fenceModules? PySem.Challenge.pw_drawhouse_k34_leads_and_ways s = some s := by kernel_rfl
theorem left : LeftO PySem.Challenge.pw_drawhouse_k34_leads_and_ways qv loose xt (Hook.obs (kHook Mine.myK as ke)) (Hook.val (kHook Mine.myK as ke)) 10688 true := by
 refine LeftO.of_pieces (boot_open op rfl fn) (congrFun es) run rfl ek
end Hd
open PySem PySem.W PyProof.Rows
set_option maxRecDepth 100000 in
set_option maxHeartbeats 0 in
theorem PySem.Challenge.cw_drawhouse_k34_leads_and_ways_holds : PySem.Challenge.rw_drawhouse_k34_leads_and_ways.Holds := by
 w_on; o_law
 refine holds_open (r := OpenLaw.row PySem.Challenge.rw_drawhouse_k34_leads_and_ways) (q := Hd.qv) (loose := Hd.loose) (Xt := Hd.xt) (XP := XL Hd.qv Hd.lv) (Yf := Hook.obs (kHook Mine.myK Hd.as Hd.ke)) (Ya := Hook.val (kHook Mine.myK Hd.as Hd.ke))
  (YP := Hook.says (kHook Mine.myK Hd.as Hd.ke)) Hd.left (Hook.of (kHook Mine.myK Hd.as Hd.ke)) (Hook.keeps (kHook Mine.myK Hd.as Hd.ke)) (fun s e => xl_of s (Bool.and_eq_true_iff.mp e).1) XL.keeps (by rfl) (by rfl) (by rfl)
  (fun s e => recFacts_of (Bool.and_eq_true_iff.mp e).2) rfl (by assumption) (by decide +kernel) ⟨rfl, rfl, rfl, rfl, rfl, by decide +kernel⟩ ?hw ?hc
 (case hw => w_witness2)
 k_fill
 refine Mine.walk (l := PySem.Challenge.rw_drawhouse_k34_leads_and_ways) rfl rfl (fun w h Y => PySem.W.kIn_of Y) ?F
 case F =>
  intro w mg fa h KX G hmg
  refine' Mine.Iz KX G hmg (Mine.fi ?_ ?_ ?_ ?_) (Mine.fi ?_ ?_ ?_ ?_) (Mine.fi ?_ ?_ ?_ ?_) (Mine.fi ?_ ?_ ?_ ?_) (Mine.fi ?_ ?_ ?_ ?_) (Mine.fi ?_ ?_ ?_ ?_) (Mine.fi ?_ ?_ ?_ ?_) (Mine.fi ?_ ?_ ?_ ?_) (Mine.fi ?_ ?_ ?_ ?_) (Mine.fi ?_ ?_ ?_ ?_) (Mine.fi ?_ ?_ ?_ ?_) (Mine.fi ?_ ?_ ?_ ?_) (Mine.fi ?_ ?_ ?_ ?_) (Mine.fi ?_ ?_ ?_ ?_) (Mine.fi ?_ ?_ ?_ ?_) (Mine.fi ?_ ?_ ?_ ?_) (Mine.fi ?_ ?_ ?_ ?_) (Mine.fi ?_ ?_ ?_ ?_) (Mine.fi ?_ ?_ ?_ ?_) (Mine.fi ?_ ?_ ?_ ?_) (Mine.fi ?_ ?_ ?_ ?_) (Mine.fi ?_ ?_ ?_ ?_) (Mine.fi ?_ ?_ ?_ ?_) (Mine.fi ?_ ?_ ?_ ?_) (Mine.fi ?_ ?_ ?_ ?_) (Mine.fi ?_ ?_ ?_ ?_) (Mine.fi ?_ ?_ ?_ ?_) (Mine.fi ?_ ?_ ?_ ?_) (Mine.fi ?_ ?_ ?_ ?_) (Mine.fi ?_ ?_ ?_ ?_) ⟨?_, ?_, ?_, ?_, ?_, ?_, ?_, ?_, ?_, ?_, ?_⟩ ⟨?_, ?_, ?_, ?_, ?_, ?_, ?_, ?_, ?_, ?_, ?_⟩ ⟨?_, ?_, ?_, ?_, ?_, ?_, ?_, ?_, ?_, ?_, ?_⟩ ⟨?_, ?_, ?_, ?_, ?_, ?_, ?_, ?_, ?_, ?_, ?_⟩ ⟨?_, ?_, ?_, ?_, ?_, ?_, ?_, ?_, ?_, ?_, ?_⟩ ⟨?_, ?_, ?_, ?_, ?_, ?_, ?_, ?_, ?_, ?_, ?_⟩ ⟨?_, ?_, ?_, ?_, ?_, ?_, ?_, ?_, ?_, ?_, ?_⟩ ⟨?_, ?_, ?_, ?_, ?_, ?_, ?_, ?_, ?_, ?_, ?_⟩ ⟨?_, ?_, ?_, ?_, ?_, ?_, ?_, ?_, ?_, ?_, ?_⟩ ?_ ?_ ?_ ?_ ?_ ?_ ?_ ?_ ?_ ?_ ?_ ?_ ?_ ?_ ?_ ?_ ?_ ?_ ?_ ?_ ?_ ?_ ?_ ?_ ?_ ?_ ?_ ?_ ?_ ?_ ?_ ?_ ?_ ?_ ?_ ?_ ?_ ?_ ?_ ?_ ?_ ?_ ?_ ?_ ?_ ?_ ?_ ?_ ?_ ?_ ?_ ?_ ?_ ?_ ?_ ?_ ?_ ?_ ?_ ?_ ?_ ?_ ?_ ?_ ?_ ?_ ?_ ?_ ?_ ?_ ?_ ?_ ?_ ?_ ?_ (Mine.mi ?_ ?_ ?_ ?_) ?_ ?_ ?_ ?_ (Mine.mi ?_ ?_ ?_ ?_) ?_ (Mine.mi ?_ ?_ ?_ ?_) ?_ (Mine.mi ?_ ?_ ?_ ?_) ?_ (Mine.mi ?_ ?_ ?_ ?_) ?_ (Mine.mi ?_ ?_ ?_ ?_) ?_ (Mine.mi ?_ ?_ ?_ ?_) ?_ (Mine.mi ?_ ?_ ?_ ?_) ?_ (Mine.mi ?_ ?_ ?_ ?_) ?_ (Mine.mi ?_ ?_ ?_ ?_) ?_ (Mine.mi ?_ ?_ ?_ ?_) ?_ (Mine.mi ?_ ?_ ?_ ?_) ?_ (Mine.mi ?_ ?_ ?_ ?_) ?_ (Mine.mi ?_ ?_ ?_ ?_) ?_ (Mine.mi ?_ ?_ ?_ ?_) ?_ (Mine.mi ?_ ?_ ?_ ?_) ?_ (Mine.mi ?_ ?_ ?_ ?_) ?_ (Mine.mi ?_ ?_ ?_ ?_) ?_ (Mine.mi ?_ ?_ ?_ ?_) ?_ (Mine.mi ?_ ?_ ?_ ?_) ?_ (Mine.mi ?_ ?_ ?_ ?_) ?_ (Mine.mi ?_ ?_ ?_ ?_) ?_ ?_ ?_ ?_ ?_ ?_ ?_ ?_ ?_ ?_ ?_ (Mine.mi ?_ ?_ ?_ ?_) ?_ ?_ ?_ ?_ ?uSK ?uNI ?_ ?_ ?_ ?_ ?_ ?_ ?_ ?_ ?_ ?_ ?_ ?_ ?_ ?_ ?_ ?_ ?_ ?_ ?_ ?_
  any_goals k_is
  (case uSK => rfl); (case uNI => rfl)
#print axioms PySem.Challenge.cw_drawhouse_k34_leads_and_ways_holds
