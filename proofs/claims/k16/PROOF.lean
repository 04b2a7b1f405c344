import PyProof.Rows.All
import Wide.All
import OpenK.AllK
import Wide.FinOn
import Lean
import PyProof.EqAt
import PyProof.EqKinds
import PyProof.TupleCall
import KE.KIntText
import PyProof.ZipIter
import PyProof.ExcClass3
import PyProof.ExcFactsAll.ValueError
import PyProof.ExcArgs
import PyProof.InstStoreFacts
import PyProof.ExcBaseAll.ValueError
import PyProof.Rows.FStr
import PySem.Challenge.RW_drawhouse_k16_refusals_apart
set_option Elab.async false
set_option linter.all false
set_option maxRecDepth 100000
namespace L2
open PySem PySem.Spec PyProof.Rows

abbrev Key := Sum Int Str
def keyIs : Key → Value → Bool
  | .inl k, v => Value.isInt k v
  | .inr x, v => Value.isStrOf x v
def keyH (w : World) : Key → Int
  | .inl k => hashInt k
  | .inr x => hashStr w x
theorem keyIs_shape : ∀ {k : Key} {v : Value}, keyIs k v = true → (∃ i t, k = Sum.inl i ∧ v = Value.int i t) ∨ (∃ x t, k = Sum.inr x ∧ v = Value.str x t)
  | .inl i, v, h => by
    obtain ⟨t, e⟩ := Value.isInt_shape (k := i) (v := v) h
    exact .inl ⟨i, t, rfl, e⟩
  | .inr x, v, h => by
    obtain ⟨t, e⟩ := Value.isStrOf_shape (x := x) (v := v) h
    exact .inr ⟨x, t, rfl, e⟩
theorem key_ll (a b : Int) : decide ((Sum.inl a : Key) = Sum.inl b) = (a == b) := by
  by_cases e : a = b
  · subst e; simp
  · have h : ¬ (Sum.inl a : Key) = Sum.inl b := fun q => e (Sum.inl.inj q)
    rw [decide_eq_false h]
    exact (beq_eq_false_iff_ne.mpr e).symm
theorem key_rr (a b : Str) : decide ((Sum.inr a : Key) = Sum.inr b) = decide (a = b) := by
  by_cases e : a = b
  · subst e; simp
  · have h : ¬ (Sum.inr a : Key) = Sum.inr b := fun q => e (Sum.inr.inj q)
    rw [decide_eq_false h, decide_eq_false e]
theorem key_lr (a : Int) (b : Str) : decide ((Sum.inl a : Key) = Sum.inr b) = false := decide_eq_false (fun q => nomatch q)
theorem key_rl (a : Str) (b : Int) : decide ((Sum.inr a : Key) = Sum.inl b) = false := decide_eq_false (fun q => nomatch q)

def mixKind (prog : Program) (w : World) : PySem.KeyKind prog w Key where
  is := keyIs
  hash := keyH w
  inj := fun v a b ha hb => by
    rcases keyIs_shape ha with ⟨i, t, rfl, rfl⟩ | ⟨x, t, rfl, rfl⟩
    · rcases keyIs_shape hb with ⟨j, u, rfl, e⟩ | ⟨y, u, rfl, e⟩
      · injection e with e1 _; rw [e1]
      · exact nomatch e
    · rcases keyIs_shape hb with ⟨j, u, rfl, e⟩ | ⟨y, u, rfl, e⟩
      · exact nomatch e
      · injection e with e1 _; rw [e1]
  byValue := fun k v h => by
    rcases keyIs_shape h with ⟨i, t, rfl, rfl⟩ | ⟨x, t, rfl, rfl⟩ <;> rfl
  pyHash := fun hv h => by
    rcases keyIs_shape hv with ⟨i, t, rfl, rfl⟩ | ⟨x, t, rfl, rfl⟩
    · exact wpAny_pyHash_int h
    · exact wpAny_pyHash_str h
  eqBool := fun hu hv h => by
    rcases keyIs_shape hu with ⟨i, t, rfl, rfl⟩ | ⟨x, t, rfl, rfl⟩
    · rcases keyIs_shape hv with ⟨j, u, rfl, rfl⟩ | ⟨y, u, rfl, rfl⟩
      · rw [key_ll] at h; exact wpAny_eqBool_int h
      · rw [key_lr] at h; exact SeqAt.EqAt.int_str i t y u _ _ _ _ h
    · rcases keyIs_shape hv with ⟨j, u, rfl, rfl⟩ | ⟨y, u, rfl, rfl⟩
      · rw [key_rl] at h; exact SeqAt.EqAt.str_int x t j u _ _ _ _ h
      · rw [key_rr] at h; exact wpAny_eqBool_str h
  «strs» := fun k x t v h => by
    rcases keyIs_shape h with ⟨i, u, rfl, e⟩ | ⟨y, u, rfl, e⟩
    · exact nomatch e
    · injection e with e1 _
      subst e1
      cases v <;> rfl

end L2

namespace L2
open PySem PySem.Spec PyProof.Rows

inductive V where
  | non | bl (b : Bool) | int (i : Int) | str (x : Str) | byt (b : Array UInt8) | flt (b : UInt64) | ref (a : Addr) | ty (n : String)
  deriving DecidableEq

def RelV : V → Value → Prop
  | .non, u => u = Value.none
  | .bl b, u => u = Value.bool b
  | .int i, u => ∃ t, u = Value.int i t
  | .str x, u => ∃ t, u = Value.str x t
  | .byt b, u => ∃ t, u = Value.bytes b t
  | .flt b, u => ∃ t, u = Value.float b t
  | .ref a, u => u = Value.ref a
  | .ty n, u => u = Value.type n

abbrev Vals : List V → List Value → Prop := Paired RelV
theorem Vals.length {xs : List V} {us : List Value} (r : Vals xs us) : xs.length = us.length := Paired.length r
theorem Vals.get : ∀ {xs : List V} {us : List Value} {i : Nat} {x : V}, Vals xs us → xs[i]? = some x → ∃ u, us[i]? = some u ∧ RelV x u
  | _, _, _, _, .nil, e => by simp at e
  | _, _, 0, _, .cons r _, e => by simp at e; subst e; exact ⟨_, rfl, r⟩
  | _, _, i + 1, x, .cons _ t, e => by
    obtain ⟨u, h1, h2⟩ := Vals.get (i := i) (x := x) t (by simpa using e)
    exact ⟨u, by simpa using h1, h2⟩
theorem Vals.append : ∀ {xs ys : List V} {us ws : List Value}, Vals xs us → Vals ys ws → Vals (xs ++ ys) (us ++ ws)
  | _, _, _, _, .nil, s => s
  | _, _, _, _, .cons r t, s => .cons r (Vals.append t s)
def RelO : Option V → Option Value → Prop
  | some v, some u => RelV v u
  | none, none => True
  | _, _ => False
def KV {κ : Type} : List (κ × V) → List (κ × Value) → Prop := Paired fun (p : κ × V) (q : κ × Value) => p.1 = q.1 ∧ RelV p.2 q.2

def kV : Key → V
  | .inl i => .int i
  | .inr x => .str x

inductive HO where
  /-- a list -/
  | lst (xs : List V)
  /-- a tuple (never changes) -/
  | tup (xs : List V)
  /-- a dict whose keys are ints and texts; one whose keys are tuples of ints and texts (the empty one is both) -/
  | dK (kvs : List (Key × V)) | dT (kvs : List (List Key × V))
  /-- a set of ints: its members, its size -/
  | set (S : Int → Bool) (n : Nat)
  /-- an instance of the class at C, its dict at dx, its attributes -/
  | ins (C dx : Addr) (fs : List (Str × V))
  /-- the dict of the instance at x -/
  | own (x : Addr)
  /-- the dict of an exception -/
  | xd (fs : List (Str × V))
  /-- a bound method, f of x -/
  | met (f x : Addr)
  /-- a range object lo, lo + 1, .. below hi -/
  | rng (lo hi : Int)
  /-- a thing that is known to the object (the script; a dict while a loop walks it): read, never written while it is so -/
  | frz (o : Obj) (u : HO)
  /-- a code object's table -/
  | tbl (ps : Array Value)
  /-- any other thing, by what is true of its one object (a def of one's own: SetO a S n := HO.ext fun h => ..) -/
  | ext (φ : Heap → Prop)

abbrev Hp := Addr → Option HO
def upd (H : Hp) (a : Addr) (o : HO) : Hp := fun b => if b = a then some o else H b
theorem upd_same {H : Hp} {a : Addr} {o : HO} : upd H a o a = some o := by unfold upd; rw [if_pos rfl]
theorem upd_ne {H : Hp} {a b : Addr} {o : HO} (h : b ≠ a) : upd H a o b = H b := by unfold upd; rw [if_neg h]
theorem ne_of {H : Hp} {a b : Addr} {o u : HO} (h : H a = some o) (h' : H b = some u) (d : o ≠ u) : a ≠ b := by
  intro e; subst e; rw [h] at h'; exact d (Option.some.inj h')
theorem ne_of_none {H : Hp} {a b : Addr} {o : HO} (h : H a = some o) (h' : H b = none) : a ≠ b := by
  intro e; subst e; rw [h] at h'; cases h'

section
variable (P : Program) (w : World)
def ObjOk (H : Hp) (h : Heap) (a : Addr) : HO → Prop
  | .lst xs => xs.length ≤ sizeLine ∧ ∃ (its : List Value) (n : Nat), Vals xs its ∧ h.get? a = some { cls := .type "list", data := .seq its.toArray n }
  | .tup xs => xs.length ≤ sizeLine ∧ ∃ its : List Value, Vals xs its ∧ IsTup h a its.toArray
  | .dK kvs => kvs.length ≤ sizeLine ∧ (a == sysModules) = false ∧ ∃ vs, KV kvs vs ∧ h.DictOf (mixKind P w) a vs
  | .dT kvs => kvs.length ≤ sizeLine ∧ (a == sysModules) = false ∧ ∃ xs : List (List Key × Addr × Value),
      Paired (fun (p : List Key × V) (q : List Key × Addr × Value) => p.1 = q.1 ∧ H q.2.1 = some (.tup (p.1.map kV)) ∧ RelV p.2 q.2.2) kvs xs ∧
      ∃ o es ep, h.get? a = some o ∧ o.ExactDict ∧ o.data = .dict es ep ∧ es.toList = xs.map (entryOfKey (tupleKind (mixKind P w))) ∧ (xs.map (·.1)).Nodup
  | .set S n => h.SetOf (intKind P w) a S n
  | .ins C dx fs => H dx = some (.own a) ∧ fs.length ≤ 1000 ∧ dx ≠ a ∧ h.get? a = some (PySem.W.instObj C dx) ∧
      ∃ mA, h.Ns1 dx mA ∧ (∀ f, RelO (fs.lookup f) (mA f)) ∧ PySem.Within mA (fs.map (·.1))
  | .own _ => ∃ o, h.get? a = some o
  | .xd fs => ∃ mA, h.Ns1 a mA ∧ ∀ f, RelO (fs.lookup f) (mA f)
  | .rng lo hi => ∃ t u v, h.get? a = some { cls := .type "range", data := .fields #[.int lo t, .int hi u, .int 1 v] }
  | .frz o u => h.get? a = some o ∧ ObjOk H h a u
  | .tbl ps => h.get? a = some { cls := .none, data := .fields ps }
  | .met f x => h.get? a = some (PySem.W.methodObj (.ref f) (.ref x))
  | .ext φ => φ h ∧ (∃ o, h.get? a = some o) ∧ ∀ h1 h2 : Heap, φ h1 → (∀ o, h1.get? a = some o → h2.get? a = some o) → φ h2
def HOk (H : Hp) (h : Heap) : Prop := ∀ a o, H a = some o → ObjOk P w H h a o
end

section
variable {P : Program} {w : World} {H H' : Hp} {h h' : Heap} {a : Addr} {o : HO}
theorem ObjOk.lt (x : ObjOk P w H h a o) : a < h.objs.size := by
  cases o with
  | lst xs => obtain ⟨_, _, _, _, e⟩ := x; exact Heap.lt_size e
  | tup xs => obtain ⟨_, _, _, p⟩ := x; exact p.lt
  | dK kvs => obtain ⟨_, _, _, _, o, _, _, e, _⟩ := x; exact Heap.lt_size e
  | dT kvs => obtain ⟨_, _, _, _, o, _, _, e, _⟩ := x; exact Heap.lt_size e
  | set S n => obtain ⟨o, _, _, _, e, _⟩ := x; exact Heap.lt_size e
  | ins C dx fs => obtain ⟨_, _, _, e, _⟩ := x; exact Heap.lt_size e
  | own y => obtain ⟨_, e⟩ := x; exact Heap.lt_size e
  | xd fs => obtain ⟨_, ⟨_, _, _, e, _⟩, _⟩ := x; exact Heap.lt_size e
  | rng lo hi => obtain ⟨_, _, _, e⟩ := x; exact Heap.lt_size e
  | frz ob u => obtain ⟨e, _⟩ := x; exact Heap.lt_size e
  | tbl ps => exact Heap.lt_size (show h.get? a = some _ from x)
  | met f y => exact Heap.lt_size (show h.get? a = some _ from x)
  | ext φ => obtain ⟨_, ⟨_, e⟩, _⟩ := x; exact Heap.lt_size e
theorem Paired.mapP {α β : Type} {F G : α → β → Prop} : ∀ {l₁ : List α} {l₂ : List β}, Paired F l₁ l₂ → (∀ a b, F a b → G a b) → Paired G l₁ l₂
  | _, _, .nil, _ => .nil
  | _, _, .cons r t, f => .cons (f _ _ r) (Paired.mapP t f)
theorem ObjOk.stay (x : ObjOk P w H h a o) (k : ∀ b u, (b = a ∨ H b = some (.own a)) → h.get? b = some u → h'.get? b = some u)
    (ho : ∀ b, H b = some (.own a) → H' b = some (.own a)) (ht : ∀ b xs, H b = some (.tup xs) → H' b = some (.tup xs)) : ObjOk P w H' h' a o := by
  induction o with
  | lst xs => obtain ⟨z, its, n, r, e⟩ := x; exact ⟨z, its, n, r, k _ _ (.inl rfl) e⟩
  | tup xs => obtain ⟨z, its, r, ob, e, c⟩ := x; exact ⟨z, its, r, ob, k _ _ (.inl rfl) e, c⟩
  | dK kvs => obtain ⟨z, y, vs, r, ob, es, ep, e, c⟩ := x; exact ⟨z, y, vs, r, ob, es, ep, k _ _ (.inl rfl) e, c⟩
  | dT kvs =>
    obtain ⟨z, y, xs, r, ob, es, ep, e, c⟩ := x
    exact ⟨z, y, xs, Paired.mapP r fun p q z => ⟨z.1, ht _ _ z.2.1, z.2.2⟩, ob, es, ep, k _ _ (.inl rfl) e, c⟩
  | set S n => obtain ⟨ob, es, ep, t, e, c⟩ := x; exact ⟨ob, es, ep, t, k _ _ (.inl rfl) e, c⟩
  | ins C dx fs =>
    obtain ⟨d, z, ne, e, mA, ⟨od, es, ep, e2, c⟩, r⟩ := x
    exact ⟨ho _ d, z, ne, k _ _ (.inl rfl) e, mA, ⟨od, es, ep, k _ _ (.inr d) e2, c⟩, r⟩
  | own y => obtain ⟨ob, e⟩ := x; exact ⟨ob, k _ _ (.inl rfl) e⟩
  | xd fs => obtain ⟨mA, ⟨od, es, ep, e, c⟩, r⟩ := x; exact ⟨mA, ⟨od, es, ep, k _ _ (.inl rfl) e, c⟩, r⟩
  | rng lo hi => obtain ⟨t, u, v, e⟩ := x; exact ⟨t, u, v, k _ _ (.inl rfl) e⟩
  | frz ob u ih => obtain ⟨e, q⟩ := x; exact ⟨k _ _ (.inl rfl) e, ih q⟩
  | tbl ps =>
    have e : h.get? a = some { cls := .none, data := .fields ps } := x
    show h'.get? a = some { cls := .none, data := .fields ps }
    exact k a _ (.inl rfl) e
  | met f y =>
    have e : h.get? a = some (PySem.W.methodObj (.ref f) (.ref y)) := x
    show h'.get? a = some (PySem.W.methodObj (.ref f) (.ref y))
    exact k a _ (.inl rfl) e
  | ext φ => obtain ⟨p, ⟨o, e⟩, st⟩ := x; exact ⟨st _ _ p fun o q => k _ _ (.inl rfl) q, ⟨o, k _ _ (.inl rfl) e⟩, st⟩
theorem HOk.lt (x : HOk P w H h) (e : H a = some o) : a < h.objs.size := (x a o e).lt
theorem HOk.fresh (x : HOk P w H h) (e : h.objs.size ≤ a) : H a = none := by
  cases q : H a with
  | none => rfl
  | some u => exact absurd (Nat.lt_of_lt_of_le (x.lt q) e) (Nat.lt_irrefl _)
theorem HOk.kept (x : HOk P w H h) (k : ∀ b u, h.get? b = some u → h'.get? b = some u) : HOk P w H h' := fun a o e =>
  (x a o e).stay (fun b u _ q => k b u q) (fun _ q => q) fun _ _ q => q
theorem HOk.laid (x : HOk P w H h) (k : ∀ b u, h.get? b = some u → h'.get? b = some u) (hp : h.objs.size ≤ a) (new : ObjOk P w (upd H a o) h' a o) : HOk P w (upd H a o) h' := fun b u e => by
  have hn := x.fresh hp
  by_cases hb : b = a
  · subst hb; rw [upd_same] at e; cases e; exact new
  · rw [upd_ne hb] at e
    exact (x b u e).stay (fun c v _ q => k c v q) (fun c q => by rw [upd_ne (ne_of_none q hn)]; exact q) fun c xs q => by rw [upd_ne (ne_of_none q hn)]; exact q
end

def Rd (H : Hp) (a : Addr) (u : HO) : Prop := H a = some u ∨ ∃ o, H a = some (.frz o u)
theorem Rd.ok {P : Program} {w : World} {H : Hp} {h : Heap} {a : Addr} {u : HO} (r : Rd H a u) (x : HOk P w H h) : ObjOk P w H h a u := by
  rcases r with r | ⟨o, r⟩
  · exact x a u r
  · obtain ⟨_, q⟩ := x a _ r
    exact q
def Mut : Option HO → Prop
  | some (.lst _) => True
  | some (.dK _) => True
  | some (.dT _) => True
  | some (.set _ _) => True
  | some (.ins _ _ _) => True
  | some (.ext _) => True
  | _ => False
section
variable {P : Program} {w : World} {H : Hp} {h h' : Heap} {x e : Addr} {o' : HO}
theorem HOk.write (ok : HOk P w H h) (mu : Mut (H x)) (he : e = x ∨ H e = some (.own x)) (k : ∀ b u, b ≠ e → h.get? b = some u → h'.get? b = some u) (heo : ∃ u, h'.get? e = some u)
    (new : ObjOk P w (upd H x o') h' x o') : HOk P w (upd H x o') h' := fun b u q => by
  have nown : ∀ c y, H c = some (.own y) → c ≠ x := fun c y r z => by subst z; rw [r] at mu; exact mu
  have ntup : ∀ c xs, H c = some (.tup xs) → c ≠ x := fun c xs r z => by subst z; rw [r] at mu; exact mu
  by_cases hb : b = x
  · subst hb; rw [upd_same] at q; cases q; exact new
  · rw [upd_ne hb] at q
    by_cases hbe : b = e
    · have q' : H b = some (.own x) := by
        rcases he with z | z
        · exact absurd (hbe.trans z) hb
        · rw [hbe]; exact z
      rw [q] at q'; cases q'
      obtain ⟨v, hv⟩ := heo
      exact ⟨v, by rw [hbe]; exact hv⟩
    · refine (ok b u q).stay (fun c v hc r => k c v ?_ r) (fun c r => by rw [upd_ne (nown c b r)]; exact r) fun c xs r => by rw [upd_ne (ntup c xs r)]; exact r
      rcases hc with rfl | hc
      · exact hbe
      · rintro rfl
        rcases he with z | z
        · exact nown c b hc z
        · rw [hc] at z; cases z; exact hb rfl
end

structure Un (fs ex : List Addr) (H H' : Hp) (h h' : Heap) : Prop where
  keep : ∀ b o, h.get? b = some o → H b = none → b ∉ fs → b ∉ ex → h'.get? b = some o
  slot : ∀ b o, h.get? b = some o → H b = none → b ∈ fs → b ∉ ex → ∃ sl, h'.get? b = some { o with slots := sl }
  free : ∀ b o, h.get? b = some o → H b = none → b ∉ ex → H' b = none
  there : ∀ b o, h.get? b = some o → b ∉ ex → ∃ o', h'.get? b = some o'
  tups : ∀ b xs, H b = some (.tup xs) → H' b = some (.tup xs)
  frzs : ∀ b o u, H b = some (.frz o u) → H' b = some (.frz o u)
  tbls : ∀ b ps, H b = some (.tbl ps) → ∃ more, H' b = some (.tbl (ps ++ more))
section
variable {fs fs' ex ex' : List Addr} {H H1 H2 : Hp} {h h1 h2 h' : Heap} {a x e : Addr} {o : HO}
theorem Un.any (u : Un fs ex H H1 h h1) {b : Addr} {ob : Obj} (q : h.get? b = some ob) (n : H b = none) (hx : b ∉ ex) : ∃ sl, h1.get? b = some { ob with slots := sl } := by
  by_cases hb : b ∈ fs
  · exact u.slot b ob q n hb hx
  · exact ⟨ob.slots, u.keep b ob q n hb hx⟩
theorem Un.kept (k : ∀ b u, h.get? b = some u → h'.get? b = some u) : Un fs ex H H h h' :=
  ⟨fun b ob q _ _ _ => k b ob q, fun b ob q _ _ _ => ⟨ob.slots, k b ob q⟩, fun _ _ _ n _ => n, fun b ob q _ => ⟨ob, k b ob q⟩, fun _ _ q => q, fun _ _ _ q => q, fun _ ps q => ⟨#[], by rw [q]; simp⟩⟩
theorem Un.refl : Un fs ex H H h h := Un.kept fun _ _ q => q
theorem Un.laid (k : ∀ b u, h.get? b = some u → h'.get? b = some u) (hp : h.objs.size ≤ a) (hn : H a = none) : Un fs ex H (upd H a o) h h' where
  keep := fun b u q _ _ _ => k b u q
  slot := fun b u q _ _ _ => ⟨u.slots, k b u q⟩
  free := fun b u q n _ => by rw [upd_ne (Nat.ne_of_lt (Nat.lt_of_lt_of_le (Heap.lt_size q) hp))]; exact n
  there := fun b u q _ => ⟨u, k b u q⟩
  tups := fun b xs q => by rw [upd_ne (ne_of_none q hn)]; exact q
  frzs := fun b u xs q => by rw [upd_ne (ne_of_none q hn)]; exact q
  tbls := fun b ps q => ⟨#[], by rw [upd_ne (ne_of_none q hn), q]; simp⟩
theorem Un.write (mu : Mut (H x)) (he : e = x ∨ H e = some (.own x)) (k : ∀ b u, b ≠ e → h.get? b = some u → h'.get? b = some u) (heo : ∃ u, h'.get? e = some u) : Un fs ex H (upd H x o) h h' := by
  have hx : ∀ b, H b = none → b ≠ x := fun b n z => by subst z; rw [n] at mu; exact mu
  have hb : ∀ b, H b = none → b ≠ e := fun b n z => by
    subst z
    rcases he with r | r
    · exact hx b n r
    · rw [n] at r; cases r
  have hm : ∀ b u, H b = some u → ¬ Mut (some u) → b ≠ x := fun b u q nm z => by subst z; rw [q] at mu; exact nm mu
  refine ⟨fun b u q n _ _ => k b u (hb b n) q, fun b u q n _ _ => ⟨u.slots, k b u (hb b n) q⟩, fun b u q n _ => by rw [upd_ne (hx b n)]; exact n, fun b u q _ => ?_,
    fun b xs q => by rw [upd_ne (hm b _ q fun z => z)]; exact q, fun b u xs q => by rw [upd_ne (hm b _ q fun z => z)]; exact q, fun b ps q => ⟨#[], by rw [upd_ne (hm b _ q fun z => z), q]; simp⟩⟩
  by_cases hbe : b = e
  · subst hbe; exact heo
  · exact ⟨u, k b u hbe q⟩
end

def trk (h : Heap) (H : Hp) : List Addr := (List.range h.objs.size).filter fun a => (H a).isSome
def hidT (h : Heap) (H : Hp) : Heap := PySem.W.hideAll h (trk h H)
theorem hidT_size (h : Heap) (H : Hp) : (hidT h H).objs.size = h.objs.size := PySem.W.hideAll_size _ _
theorem hidT_get {h : Heap} {H : Hp} {b : Addr} {o : Obj} (e : h.get? b = some o) (n : H b = none) : (hidT h H).get? b = some o :=
  PySem.W.hideAll_get _ e fun hm => by
    have q : (H b).isSome = true := (List.mem_filter.mp hm).2
    rw [n] at q; simp at q
theorem of_hidT {h : Heap} {H : Hp} {b : Addr} {o : Obj} (e : (hidT h H).get? b = some o) : h.get? b = some o ∧ H b = none := by
  have e' : h.get? b = some o := PySem.W.of_hideAll (trk h H) e
  refine ⟨e', ?_⟩
  cases q : H b with
  | none => rfl
  | some x =>
    have hm : b ∈ trk h H := List.mem_filter.mpr ⟨List.mem_range.mpr (Heap.lt_size e'), by simp [q]⟩
    have z : (hidT h H).get? b = none := PySem.W.hideAll_none (trk h H) hm
    rw [z] at e; cases e

end L2

namespace L2
open PySem PySem.Spec PyProof.Rows

structure Mod (K : PySem.W.Frag) (mg : Str → Option Value) (base : Heap) : Prop where
  kin : K.In base
  glob : base.Ns mainGlobals mg
  blt : ∃ mb, base.Ns builtinsNs mb ∧ ∀ x : Str, x ≠ "__name__" → mb x = bootBuiltins x
  nolimit : base.NoLimit

structure Cx where
  prog : Program
  w : World
  K : PySem.W.Frag
  mg : Str → Option Value
  base : Heap
  A : Around
  N : List Str
  s₀ : Shared
  H₀ : Hp
  env : Env
  outer : List Env
  stack : List Env
  ex : List Addr
  fn : Str → Bool
  calm : Bool
  pn : List (Addr × Obj)
  xe : Value → Shared → Prop
def frs (l : List Env) : List Addr := l.filterMap (·.frame)
abbrev Cx.fs (X : Cx) : List Addr := frs X.outer

def Vis (sc : Scope) (x : Str) : Prop := sc.names.lookup x = some .local ∨ sc.names.lookup x = some .cell ∨ sc.names.lookup x = some .free
def Loc (sc : Scope) (x : Str) : Prop := sc.names.lookup x = some .local ∨ sc.names.lookup x = some .cell
def Look (env : Env) (h : Heap) (m : Str → Option Value) (x : Str) (u : Value) : Prop :=
  (env.kindOf x = some .local ∧ m x = some u) ∨ ((env.kindOf x = some .cell ∨ env.kindOf x = some .free) ∧ ∃ c, env.cells.lookup x = some c ∧ h.IsCell c (some u))

structure Cx.Ok (X : Cx) : Prop where
  mod : Mod X.K X.mg X.base
  kind : X.env.scope.kind = .function
  glob : X.env.globals = mainGlobals
  blt : X.env.builtins = builtinsNs
  above : X.s₀.heap.objs.size ≤ X.env.locals
  inj : ∀ x y c, X.env.cells.lookup x = some c → X.env.cells.lookup y = some c → x = y
  has : ∀ x, (X.env.kindOf x = some .cell ∨ X.env.kindOf x = some .free) → ∃ c, X.env.cells.lookup x = some c
  cab : ∀ x c, X.fn x = true → X.env.cells.lookup x = some c → X.s₀.heap.objs.size ≤ c
  hd : X.calm = true → X.A.handled = none
  frames : X.A.frames = some X.stack
  stk : X.stack = X.outer ∨ (X.stack = X.env :: X.outer ∧ X.env.frame = some X.env.locals)
  exf : ∀ b ∈ X.ex, b ≠ X.env.locals ∧ ∀ x c, X.env.cells.lookup x = some c → c ≠ b
  bs : ∀ b o, X.base.get? b = some o → X.s₀.heap.get? b = some o ∧ X.H₀ b = none
  bsz : X.base.objs.size ≤ X.s₀.heap.objs.size
  noex : ∀ b o, X.base.get? b = some o → b ∉ X.ex
  exfs : ∀ b ∈ X.ex, b ∉ X.fs
  funs : X.s₀.heap.FunFrames X.base X.outer
  frf : ∀ b ∈ X.fs, X.H₀ b = none

structure Inv (X : Cx) (pins : List (Addr × Obj)) (σ : List (Option V)) (H : Hp) (s : Shared) : Prop where
  ok : X.Ok
  os : s.os = X.s₀.os
  bare : AllBare s.gens
  base : Un X.fs X.ex X.H₀ H X.s₀.heap s.heap
  loc : ∃ m, s.heap.Ns X.env.locals m ∧ ∀ (i : Nat) (x : Str) (v : V), X.N[i]? = some x → σ[i]? = some (some v) → Vis X.env.scope x → ∃ u, RelV v u ∧ Look X.env s.heap m x u
  cell : ∀ x c, X.env.cells.lookup x = some c → ∃ v, s.heap.IsCell c v
  free : H X.env.locals = none
  freeC : ∀ x c, X.env.cells.lookup x = some c → H c = none
  pin : ∀ p ∈ X.pn ++ pins, s.heap.get? p.1 = some p.2 ∧ H p.1 = none ∧ p.1 ≠ X.env.locals ∧ p.1 ∉ X.fs ∧ ∀ v, p.2.data ≠ .cell v
  hok : HOk X.prog X.w H s.heap
  len : σ.length = X.N.length

section
variable {X : Cx} {pins : List (Addr × Obj)} {σ : List (Option V)} {H H' : Hp} {s : Shared} {h' : Heap}

theorem Cx.Ok.nofr (ok : X.Ok) {b : Addr} {o : Obj} (e : X.base.get? b = some o) : b ∉ X.fs := fun hb => by
  have := (ok.funs.mem hb).1
  rw [e] at this; cases this
theorem Inv.bs (I : Inv X pins σ H s) : ∀ b o, X.base.get? b = some o → s.heap.get? b = some o ∧ H b = none := fun b o e =>
  ⟨I.base.keep b o (I.ok.bs b o e).1 (I.ok.bs b o e).2 (I.ok.nofr e) (I.ok.noex b o e), I.base.free b o (I.ok.bs b o e).1 (I.ok.bs b o e).2 (I.ok.noex b o e)⟩
theorem Inv.bk (I : Inv X pins σ H s) : ∀ b o, X.base.get? b = some o → s.heap.get? b = some o := fun b o e => (I.bs b o e).1
theorem Inv.mod (I : Inv X pins σ H s) : Mod X.K X.mg X.base := I.ok.mod
theorem Inv.kIn (I : Inv X pins σ H s) : X.K.In s.heap := I.ok.mod.kin.keeps I.bk
theorem Inv.lt (I : Inv X pins σ H s) : X.env.locals < s.heap.objs.size := let ⟨_, hn, _⟩ := I.loc; hn.lt
theorem Inv.sz (I : Inv X pins σ H s) : X.s₀.heap.objs.size ≤ s.heap.objs.size := Nat.le_trans I.ok.above (Nat.le_of_lt I.lt)
theorem Inv.nofs (I : Inv X pins σ H s) {a : Addr} (h : s.heap.objs.size ≤ a) : a ∉ X.fs := fun hb => by
  obtain ⟨_, o, ho, _⟩ := I.ok.funs.mem hb
  exact absurd (Nat.lt_of_lt_of_le (Heap.lt_size ho) (Nat.le_trans I.sz h)) (Nat.lt_irrefl _)
theorem Inv.cne (I : Inv X pins σ H s) : ∀ x c, X.env.cells.lookup x = some c → c ≠ X.env.locals := fun x c e z => by
  obtain ⟨v, o, ho, hd⟩ := I.cell x c e
  obtain ⟨m, ⟨o', es, ep, ho', hd', _⟩, _⟩ := I.loc
  rw [z, ho'] at ho; cases ho; rw [hd'] at hd; cases hd
theorem Inv.funs (I : Inv X pins σ H s) : s.heap.FunFrames X.base X.outer := by
  have all : ∀ (l : List Env), (∀ b ∈ frs l, b ∈ X.fs) → X.s₀.heap.FunFrames X.base l → s.heap.FunFrames X.base l := by
    intro l
    induction l with
    | nil => intro _ _; trivial
    | cons env r ih =>
      intro hs hl
      obtain ⟨hk, ⟨L, o, hf, hn, ho, hd⟩, hr⟩ := hl
      have hL : L ∈ X.fs := hs L (by unfold frs; rw [List.filterMap_cons, hf]; exact List.mem_cons_self)
      obtain ⟨sl, e⟩ := I.base.slot L o ho (I.ok.frf L hL) hL fun z => I.ok.exfs L z hL
      exact ⟨hk, ⟨L, _, hf, hn, e, hd⟩, ih (fun b hb => hs b (by unfold frs; rw [List.filterMap_cons, hf]; exact List.mem_cons_of_mem _ hb)) hr⟩
  exact all X.outer (fun _ hb => hb) I.ok.funs

theorem Inv.stack (I : Inv X pins σ H s) : s.heap.FunFrames X.base X.stack := by
  rcases I.ok.stk with e | ⟨e, hf⟩
  · rw [e]; exact I.funs
  · rw [e]
    obtain ⟨m, hn, _⟩ := I.loc
    refine .cons (by rw [I.ok.kind]; decide) hf hn ?_ I.funs
    exact Heap.get?_none_of_le (Nat.le_trans I.ok.bsz I.ok.above)
theorem Inv.stkSub (I : Inv X pins σ H s) : ∀ b ∈ frs X.stack, b ∈ X.env.locals :: X.fs := fun b hb => by
  rcases I.ok.stk with e | ⟨e, hf⟩
  · rw [e] at hb; exact List.mem_cons_of_mem _ hb
  · rw [e] at hb
    unfold frs at hb
    rw [List.filterMap_cons, hf] at hb
    exact hb
theorem Inv.stkFree (I : Inv X pins σ H s) : ∀ b ∈ frs X.stack, H b = none := fun b hb => by
  rcases List.mem_cons.mp (I.stkSub b hb) with e | hb
  · rw [e]; exact I.free
  · obtain ⟨_, o, ho, _⟩ := I.ok.funs.mem hb
    exact I.base.free b o ho (I.ok.frf b hb) fun z => I.ok.exfs b z hb

theorem Inv.step {g' : Array GenState} {t' : Nat} {d' : Drawn} {ch : List Addr} (I : Inv X pins σ H s)
    (hch : ∀ b ∈ ch, (b ∈ X.ex ∨ X.s₀.heap.objs.size ≤ b) ∧ b ≠ X.env.locals ∧ (∀ x c, X.env.cells.lookup x = some c → c ≠ b) ∧ ∀ p ∈ X.pn ++ pins, p.1 ≠ b)
    (keep : ∀ b o, b ≠ X.env.locals → b ∉ X.fs → b ∉ ch → s.heap.get? b = some o → H b = none → h'.get? b = some o)
    (slot : ∀ b o, b ≠ X.env.locals → b ∈ X.fs → b ∉ ch → s.heap.get? b = some o → H b = none → ∃ sl, h'.get? b = some { o with slots := sl }) (free : ∀ b o, b ∉ ch → s.heap.get? b = some o → H b = none → H' b = none)
    (there : ∀ b o, b ∉ ch → s.heap.get? b = some o → ∃ o', h'.get? b = some o')
    (tups : ∀ b xs, H b = some (.tup xs) → H' b = some (.tup xs)) (frzs : ∀ b o u, H b = some (.frz o u) → H' b = some (.frz o u)) (tbls : ∀ b ps, H b = some (.tbl ps) → ∃ more, H' b = some (.tbl (ps ++ more)))
    (ns : ∀ m, s.heap.Ns X.env.locals m → h'.Ns X.env.locals m) (hok : HOk X.prog X.w H' h') (hg : AllBare g') :
    Inv X pins σ H' { s with heap := h', gens := g', drawn := d', toks := t' } := by
  have neL : ∀ b o, X.s₀.heap.get? b = some o → b ≠ X.env.locals := fun b o e => Nat.ne_of_lt (Nat.lt_of_lt_of_le (Heap.lt_size e) I.ok.above)
  have neC : ∀ b o, X.s₀.heap.get? b = some o → b ∉ X.ex → b ∉ ch := fun b o e hx hb => by
    rcases (hch b hb).1 with z | z
    · exact hx z
    · exact absurd (Nat.lt_of_lt_of_le (Heap.lt_size e) z) (Nat.lt_irrefl _)
  have cellK : ∀ x c, X.env.cells.lookup x = some c → ∀ v, s.heap.IsCell c v → h'.IsCell c v := fun x c e v ⟨o, ho, hd⟩ => by
    have nch : c ∉ ch := fun z => (hch c z).2.2.1 x c e rfl
    by_cases hc : c ∈ X.fs
    · obtain ⟨sl, q⟩ := slot c o (I.cne x c e) hc nch ho (I.freeC x c e)
      exact ⟨_, q, hd⟩
    · exact ⟨o, keep c o (I.cne x c e) hc nch ho (I.freeC x c e), hd⟩
  refine ⟨I.ok, I.os, hg, ⟨fun b o e n hb hx => ?_, fun b o e n hb hx => ?_, fun b o e n hx => ?_, fun b o e hx => ?_, fun b xs e => tups b xs (I.base.tups b xs e), fun b o xs e => frzs b o xs (I.base.frzs b o xs e), fun b ps e => ?_⟩, ?_, fun x c e => ?_, ?_, fun x c e => ?_, fun p hp => ?_, hok, I.len⟩
  · exact keep b o (neL b o e) hb (neC b o e hx) (I.base.keep b o e n hb hx) (I.base.free b o e n hx)
  · obtain ⟨sl, e1⟩ := I.base.slot b o e n hb hx
    obtain ⟨sl', e2⟩ := slot b _ (neL b o e) hb (neC b o e hx) e1 (I.base.free b o e n hx)
    exact ⟨sl', e2⟩
  · obtain ⟨o', e1⟩ := I.base.there b o e hx
    exact free b o' (neC b o e hx) e1 (I.base.free b o e n hx)
  · obtain ⟨o', e1⟩ := I.base.there b o e hx
    exact there b o' (neC b o e hx) e1
  · obtain ⟨m1, e1⟩ := I.base.tbls b ps e
    obtain ⟨m2, e2⟩ := tbls b _ e1
    exact ⟨m1 ++ m2, by rw [e2, Array.append_assoc]⟩
  · obtain ⟨m, hn, hl⟩ := I.loc
    refine ⟨m, ns m hn, fun i x v e1 e2 e3 => ?_⟩
    obtain ⟨u, r, l⟩ := hl i x v e1 e2 e3
    refine ⟨u, r, ?_⟩
    rcases l with l | ⟨k, c, e, z⟩
    · exact .inl l
    · exact .inr ⟨k, c, e, cellK x c e _ z⟩
  · obtain ⟨v, z⟩ := I.cell x c e
    exact ⟨v, cellK x c e v z⟩
  · obtain ⟨m, ⟨o, _, _, ho, _⟩, _⟩ := I.loc
    exact free _ o (fun z => (hch _ z).2.1 rfl) ho I.free
  · obtain ⟨v, o, ho, hd⟩ := I.cell x c e
    exact free c o (fun z => (hch c z).2.2.1 x c e rfl) ho (I.freeC x c e)
  · obtain ⟨e, n, ne, nf, d⟩ := I.pin p hp
    have nch : p.1 ∉ ch := fun z => (hch p.1 z).2.2.2 p hp rfl
    exact ⟨keep p.1 p.2 ne nf nch e n, free p.1 p.2 nch e n, ne, nf, d⟩
theorem Inv.un {t' : Nat} (I : Inv X pins σ H s) (u : Un X.fs [] H H' s.heap h') (hok : HOk X.prog X.w H' h') : Inv X pins σ H' { s with heap := h', toks := t' } := by
  obtain ⟨m, ⟨o, es, ep, ho, r⟩, _⟩ := id I.loc
  obtain ⟨sl, hL⟩ := u.any ho I.free (by simp)
  exact I.step (g' := s.gens) (d' := s.drawn) (ch := []) (fun _ z => nomatch z) (fun b o _ hb _ e n => u.keep b o e n hb (by simp)) (fun b o _ hb _ e n => u.slot b o e n hb (by simp)) (fun b o _ e n => u.free b o e n (by simp)) (fun b o _ e => u.there b o e (by simp)) u.tups u.frzs u.tbls (fun m' hm => by
    obtain ⟨o', es', ep', ho', r'⟩ := hm
    rw [ho] at ho'; cases ho'
    exact ⟨_, es', ep', hL, r'⟩) hok I.bare
theorem Inv.call {g' : Array GenState} {t' : Nat} {d' : Drawn} {ch : List Addr} (I : Inv X pins σ H s) (u : Un (frs X.stack) ch H H' s.heap h') (hok : HOk X.prog X.w H' h') (hg : AllBare g')
    (hch : ∀ b ∈ ch, (b ∈ X.ex ∨ X.s₀.heap.objs.size ≤ b) ∧ b ≠ X.env.locals ∧ (∀ x c, X.env.cells.lookup x = some c → c ≠ b) ∧ ∀ p ∈ X.pn ++ pins, p.1 ≠ b) :
    Inv X pins σ H' { s with heap := h', gens := g', drawn := d', toks := t' } := by
  obtain ⟨m, ⟨o, es, ep, ho, r⟩, _⟩ := id I.loc
  obtain ⟨sl, hL⟩ := u.any ho I.free fun z => (hch _ z).2.1 rfl
  exact I.step (ch := ch) hch (fun b o hL hb hc e n => u.keep b o e n (fun z => (List.mem_cons.mp (I.stkSub b z)).elim hL hb) hc) (fun b o _ _ hc e n => u.any e n hc) (fun b o hc e n => u.free b o e n hc) (fun b o hc e => u.there b o e hc) u.tups u.frzs u.tbls (fun m' hm => by
    obtain ⟨o', es', ep', ho', r'⟩ := hm
    rw [ho] at ho'; cases ho'
    exact ⟨_, es', ep', hL, r'⟩) hok hg
theorem Inv.turned {t' : Nat} {it : Addr} (I : Inv X pins σ H s) (k : ∀ b o, b ≠ it → s.heap.get? b = some o → h'.get? b = some o) (hn : H it = none) (hL : it ≠ X.env.locals)
    (h1 : it ∈ X.ex ∨ X.s₀.heap.objs.size ≤ it) (h2 : ∀ x c, X.env.cells.lookup x = some c → c ≠ it) (h3 : ∀ p ∈ X.pn ++ pins, p.1 ≠ it) : Inv X pins σ H { s with heap := h', toks := t' } := by
  have nit : ∀ b u, H b = some u → b ≠ it := fun b u e z => by rw [z, hn] at e; cases e
  refine I.step (g' := s.gens) (d' := s.drawn) (ch := [it]) (fun b hb => ?_) (fun b o _ _ hc e _ => k b o (fun z => hc (by simp [z])) e) (fun b o _ _ hc e _ => ⟨o.slots, k b o (fun z => hc (by simp [z])) e⟩) (fun _ _ _ _ n => n)
    (fun b o hc e => ⟨o, k b o (fun z => hc (by simp [z])) e⟩) (fun _ _ e => e) (fun _ _ _ e => e) (fun b ps e => ⟨#[], by rw [e]; simp⟩) (fun m hm => ?_) (fun b u e => ?_) I.bare
  · have e : b = it := by simpa using hb
    subst e
    exact ⟨h1, hL, h2, h3⟩
  · obtain ⟨o, es, ep, ho, r⟩ := hm
    exact ⟨o, es, ep, k _ o (Ne.symm hL) ho, r⟩
  · refine (I.hok b u e).stay (fun c v hc q => k c v ?_ q) (fun _ q => q) fun _ _ q => q
    rcases hc with z | z
    · rw [z]; exact nit b u e
    · exact nit c _ z
theorem Inv.tok (I : Inv X pins σ H s) (t : Nat) : Inv X pins σ H { s with toks := t } := I.un (h' := s.heap) (t' := t) Un.refl I.hok
theorem Inv.kept {t' : Nat} (I : Inv X pins σ H s) (k : ∀ b u, s.heap.get? b = some u → h'.get? b = some u) : Inv X pins σ H { s with heap := h', toks := t' } := I.un (Un.kept k) (I.hok.kept k)
theorem Inv.laid {a : Addr} {o : HO} {t' : Nat} (I : Inv X pins σ H s) (k : ∀ b u, s.heap.get? b = some u → h'.get? b = some u) (hp : s.heap.objs.size ≤ a) (new : ObjOk X.prog X.w (upd H a o) h' a o) :
    Inv X pins σ (upd H a o) { s with heap := h', toks := t' } := I.un (Un.laid k hp (I.hok.fresh hp)) (I.hok.laid k hp new)
theorem Inv.write {x e : Addr} {o : HO} {t' : Nat} (I : Inv X pins σ H s) (mu : Mut (H x)) (he : e = x ∨ H e = some (.own x)) (k : ∀ b u, b ≠ e → s.heap.get? b = some u → h'.get? b = some u) (heo : ∃ u, h'.get? e = some u)
    (new : ObjOk X.prog X.w (upd H x o) h' x o) : Inv X pins σ (upd H x o) { s with heap := h', toks := t' } := I.un (Un.write mu he k heo) (I.hok.write mu he k heo new)
theorem Inv.pins_of {pins' : List (Addr × Obj)} (I : Inv X pins σ H s) (h : ∀ p ∈ pins', s.heap.get? p.1 = some p.2 ∧ H p.1 = none ∧ p.1 ≠ X.env.locals ∧ p.1 ∉ X.fs ∧ ∀ v, p.2.data ≠ .cell v) : Inv X pins' σ H s :=
  ⟨I.ok, I.os, I.bare, I.base, I.loc, I.cell, I.free, I.freeC, fun p hp => (List.mem_append.mp hp).elim (fun z => I.pin p (List.mem_append_left _ z)) (h p), I.hok, I.len⟩

theorem nodup_ix {N : List Str} (hN : N.Nodup) {i j : Nat} {x : Str} (a : N[i]? = some x) (b : N[j]? = some x) : i = j := by
  obtain ⟨h1, e1⟩ := List.getElem?_eq_some_iff.mp a
  obtain ⟨h2, e2⟩ := List.getElem?_eq_some_iff.mp b
  exact (List.getElem_inj hN).mp (e1.trans e2.symm)

theorem store_ok2 {M : Model} {A : Around} {E : Value → Shared → Prop} {i : Nat} {x : Str} {v : V} {u : Value} {Q : Unit → Shared → Prop} (I : Inv X pins σ H s) (hN : X.N.Nodup) (hi : X.N[i]? = some x) (hx : Loc X.env.scope x) (r : RelV v u)
    (h : ∀ s', Inv X pins (σ.set i (some v)) H s' → (∃ a, Heap.SameBut a s.heap s'.heap ∧ (a = X.env.locals ∨ X.env.cells.lookup x = some a)) → Q () s') (hf : X.fn x = true ∨ X.env.scope.names.lookup x = some .local := by first | exact .inl rfl | exact .inr rfl | assumption) : wpAny M A (storeName X.env x u) Q E s := by
  obtain ⟨m, hn, hl⟩ := id I.loc
  have hcls : (X.env.scope.kind == .class || (X.env.scope.kind == .module && X.env.locals != X.env.globals)) = false := by rw [I.ok.kind]; rfl
  have hiσ : i < σ.length := by rw [I.len]; exact (List.getElem?_eq_some_iff.mp hi).1
  have cne := I.cne
  have tracked : ∀ {a : Addr} {h' : Heap}, (∃ o, s.heap.get? a = some o ∧ H a = none) → Heap.SameBut a s.heap h' → HOk X.prog X.w H h' := fun {a h'} ha hs b ob e => by
    obtain ⟨_, _, hfree⟩ := ha
    refine (I.hok b ob e).stay (fun c w' hc q => (hs.2 c ?_).trans q) (fun _ q => q) fun _ _ q => q
    rintro rfl
    rcases hc with rfl | hc
    · rw [hfree] at e; cases e
    · rw [hfree] at hc; cases hc
  rcases hx with hk | hk
  · refine wpAny_storeName_local hk hn (fun h' hn' hs => ?_) hcls
    obtain ⟨oL, _, _, hoL, _⟩ := id hn
    refine h _ ⟨I.ok, I.os, I.bare, ⟨fun b o e n hb hx => ?_, fun b o e n hb hx => ?_, I.base.free, fun b o e hx => ?_, I.base.tups, I.base.frzs, I.base.tbls⟩, ⟨_, hn', fun j y v' e1 e2 e3 => ?_⟩, fun y c e => ?_, I.free, I.freeC, fun p hp => ?_, tracked ⟨oL, hoL, I.free⟩ hs, by simpa using I.len⟩ ⟨_, hs, .inl rfl⟩
    · exact (hs.2 b (Nat.ne_of_lt (Nat.lt_of_lt_of_le (Heap.lt_size e) I.ok.above))).trans (I.base.keep b o e n hb hx)
    · obtain ⟨sl, e1⟩ := I.base.slot b o e n hb hx
      exact ⟨sl, (hs.2 b (Nat.ne_of_lt (Nat.lt_of_lt_of_le (Heap.lt_size e) I.ok.above))).trans e1⟩
    · obtain ⟨o', e1⟩ := I.base.there b o e hx
      exact ⟨o', (hs.2 b (Nat.ne_of_lt (Nat.lt_of_lt_of_le (Heap.lt_size e) I.ok.above))).trans e1⟩
    · by_cases hj : j = i
      · subst hj
        rw [hi] at e1; cases e1
        rw [List.getElem?_set_self hiσ] at e2
        cases e2
        exact ⟨u, r, .inl ⟨hk, by simp⟩⟩
      · rw [List.getElem?_set_ne (Ne.symm hj)] at e2
        obtain ⟨u', r', q⟩ := hl j y v' e1 e2 e3
        refine ⟨u', r', ?_⟩
        rcases q with ⟨k, e⟩ | ⟨k, c, e, z⟩
        · refine .inl ⟨k, ?_⟩
          have : y ≠ x := fun e => hj (nodup_ix hN e1 (e ▸ hi))
          simp [this, e]
        · exact .inr ⟨k, c, e, z.sameBut hs (cne y c e)⟩
    · obtain ⟨w', z⟩ := I.cell y c e
      exact ⟨w', z.sameBut hs (cne y c e)⟩
    · obtain ⟨e, n, ne, nf, d⟩ := I.pin p hp
      exact ⟨(hs.2 p.1 ne).trans e, n, ne, nf, d⟩
  · have hfn : X.fn x = true := by
      rcases hf with z | z
      · exact z
      · rw [z] at hk; cases hk
    obtain ⟨c, hc⟩ := I.ok.has x (.inl hk)
    obtain ⟨w', z⟩ := I.cell x c hc
    refine wpAny_storeName_cell I.ok.kind hk hc z (fun h' hc' hs => ?_)
    obtain ⟨oc, hoc, hocd⟩ := id z
    refine h { s with heap := h' } ⟨I.ok, I.os, I.bare, ⟨fun b o e n hb hx => ?_, fun b o e n hb hx => ?_, I.base.free, fun b o e hx => ?_, I.base.tups, I.base.frzs, I.base.tbls⟩, ⟨m, hn.sameBut hs (Ne.symm (cne x c hc)), fun j y v' e1 e2 e3 => ?_⟩, fun y c' e => ?_, I.free, I.freeC, fun p hp => ?_, tracked ⟨oc, hoc, I.freeC x c hc⟩ hs, by simpa using I.len⟩ ⟨c, hs, .inr hc⟩
    · exact (hs.2 b (Nat.ne_of_lt (Nat.lt_of_lt_of_le (Heap.lt_size e) (I.ok.cab x c hfn hc)))).trans (I.base.keep b o e n hb hx)
    · obtain ⟨sl, e1⟩ := I.base.slot b o e n hb hx
      exact ⟨sl, (hs.2 b (Nat.ne_of_lt (Nat.lt_of_lt_of_le (Heap.lt_size e) (I.ok.cab x c hfn hc)))).trans e1⟩
    · obtain ⟨o', e1⟩ := I.base.there b o e hx
      exact ⟨o', (hs.2 b (Nat.ne_of_lt (Nat.lt_of_lt_of_le (Heap.lt_size e) (I.ok.cab x c hfn hc)))).trans e1⟩
    · by_cases hj : j = i
      · subst hj
        rw [hi] at e1; cases e1
        rw [List.getElem?_set_self hiσ] at e2
        cases e2
        exact ⟨u, r, .inr ⟨.inl hk, c, hc, hc'⟩⟩
      · rw [List.getElem?_set_ne (Ne.symm hj)] at e2
        obtain ⟨u', r', q⟩ := hl j y v' e1 e2 e3
        refine ⟨u', r', ?_⟩
        rcases q with q | ⟨k, c', e, z'⟩
        · exact .inl q
        · refine .inr ⟨k, c', e, z'.sameBut hs ?_⟩
          rintro rfl
          exact hj (nodup_ix hN e1 (I.ok.inj _ _ _ e hc ▸ hi))
    · by_cases hcc : c' = c
      · subst hcc; exact ⟨_, hc'⟩
      · obtain ⟨w2, z2⟩ := I.cell y c' e
        exact ⟨w2, z2.sameBut hs hcc⟩
    · obtain ⟨e, n, ne, nf, d⟩ := I.pin p hp
      refine ⟨(hs.2 p.1 ?_).trans e, n, ne, nf, d⟩
      intro q
      rw [q, hoc] at e
      have q' : oc = p.2 := Option.some.inj e
      exact d w' (by rw [← q']; exact hocd)
theorem store_ok {M : Model} {A : Around} {E : Value → Shared → Prop} {i : Nat} {x : Str} {v : V} {u : Value} {Q : Unit → Shared → Prop} (I : Inv X pins σ H s) (hN : X.N.Nodup) (hi : X.N[i]? = some x) (hx : Loc X.env.scope x) (r : RelV v u)
    (h : ∀ s', Inv X pins (σ.set i (some v)) H s' → Q () s') (hf : X.fn x = true ∨ X.env.scope.names.lookup x = some .local := by first | exact .inl rfl | exact .inr rfl | assumption) : wpAny M A (storeName X.env x u) Q E s :=
  store_ok2 I hN hi hx r (fun s' I' _ => h s' I') hf
theorem Inv.call' {s' : Shared} {ch : List Addr} (I : Inv X pins σ H s) (ho : s'.os = s.os) (u : Un (frs X.stack) ch H H' s.heap s'.heap) (hok : HOk X.prog X.w H' s'.heap) (hg : AllBare s'.gens)
    (hch : ∀ b ∈ ch, (b ∈ X.ex ∨ X.s₀.heap.objs.size ≤ b) ∧ b ≠ X.env.locals ∧ (∀ x c, X.env.cells.lookup x = some c → c ≠ b) ∧ ∀ p ∈ X.pn ++ pins, p.1 ≠ b) : Inv X pins σ H' s' := by
  obtain ⟨h', g', d', t', o'⟩ := s'
  have e : o' = s.os := ho
  subst e
  exact I.call (g' := g') (t' := t') (d' := d') u hok hg hch
end

abbrev XK := Value → Option Addr → Hp → Prop
abbrev St := List (Option V)
abbrev VK := V → Hp → Prop
abbrev TE := St → Hp → VK → Prop
abbrev TT := St → Hp → (Bool → Hp → Prop) → Prop
abbrev TA := St → Hp → (List V → Hp → Prop) → Prop
structure Ends where
  nx : St → Hp → Prop
  rt : VK
  bk : St → Hp → Prop := fun _ _ => False
  ct : St → Hp → Prop := fun _ _ => False
abbrev TS := Ends → St → Hp → Prop

def EP (X : Cx) (pins : List (Addr × Obj)) (σ : St) (Q : VK) (u : Value) (s' : Shared) : Prop := ∃ v H', Inv X pins σ H' s' ∧ RelV v u ∧ Q v H'
def TP (X : Cx) (pins : List (Addr × Obj)) (σ : St) (Q : Bool → Hp → Prop) (b : Bool) (s' : Shared) : Prop := ∃ H', Inv X pins σ H' s' ∧ Q b H'
def AP (X : Cx) (pins : List (Addr × Obj)) (σ : St) (Q : List V → Hp → Prop) (us : List Value) (s' : Shared) : Prop := ∃ vs H', Inv X pins σ H' s' ∧ Vals vs us ∧ Q vs H'
def SP (X : Cx) (pins : List (Addr × Obj)) (D : Ends) (f : Flow) (s' : Shared) : Prop :=
  match f with
  | .next => ∃ σ' H', Inv X pins σ' H' s' ∧ D.nx σ' H'
  | .brk => ∃ σ' H', Inv X pins σ' H' s' ∧ D.bk σ' H'
  | .cont => ∃ σ' H', Inv X pins σ' H' s' ∧ D.ct σ' H'
  | .ret u => ∃ v σ' H', Inv X pins σ' H' s' ∧ RelV v u ∧ D.rt v H'

def PE (X : Cx) (e : Expr) (t : TE) : Prop :=
  ∀ (pins : List (Addr × Obj)) (s : Shared) (σ : St) (H : Hp) (Q : VK), Inv X pins σ H s → t σ H Q → wpAny (model X.prog X.w) X.A (eval e X.env) (EP X pins σ Q) X.xe s
def PT (X : Cx) (e : Expr) (t : TT) : Prop :=
  ∀ (pins : List (Addr × Obj)) (s : Shared) (σ : St) (H : Hp) (Q : Bool → Hp → Prop), Inv X pins σ H s → t σ H Q → wpAny (model X.prog X.w) X.A (isTrue e X.env (eval e X.env)) (TP X pins σ Q) X.xe s
def PW (X : Cx) (e : Expr) (t : TT) : Prop :=
  ∀ (whole : Sem Value) (pins : List (Addr × Obj)) (s : Shared) (σ : St) (H : Hp) (Q : Bool → Hp → Prop), Inv X pins σ H s → t σ H Q → wpAny (model X.prog X.w) X.A (isTrue e X.env whole) (TP X pins σ Q) X.xe s
theorem PW.pt {X : Cx} {e : Expr} {t : TT} (h : PW X e t) : PT X e t := h _
def PA (X : Cx) (es : List Expr) (t : TA) : Prop :=
  ∀ (pos : Pos) (pins : List (Addr × Obj)) (s : Shared) (σ : St) (H : Hp) (Q : List V → Hp → Prop), Inv X pins σ H s → t σ H Q → wpAny (model X.prog X.w) X.A (spliced (backTo pos (starEach es X.env))) (AP X pins σ Q) X.xe s
def PS (X : Cx) (st : Stmt) (t : TS) : Prop :=
  ∀ (pins : List (Addr × Obj)) (s : Shared) (σ : St) (H : Hp) (D : Ends), Inv X pins σ H s → t D σ H → wpAny (model X.prog X.w) X.A (exec st X.env) (SP X pins D) X.xe s
def PSs (X : Cx) (st : List Stmt) (t : TS) : Prop :=
  ∀ (pins : List (Addr × Obj)) (s : Shared) (σ : St) (H : Hp) (D : Ends), Inv X pins σ H s → t D σ H → wpAny (model X.prog X.w) X.A (execs st X.env) (SP X pins D) X.xe s
theorem thn {α : Type} {t : Sem α} {Q Q' : α → Shared → Prop} {M : Model} {A : Around} {E : Value → Shared → Prop} {s : Shared} (h : wpAny M A t Q E s) (hQ : ∀ a s, Q a s → Q' a s) : wpAny M A t Q' E s := wpAny_mono h hQ fun _ _ x => x
end L2

namespace L2
open PySem PySem.Spec PyProof.Rows
section
variable {X : Cx}

def tVar (i : Nat) : TE := fun σ H Q => ∃ v, σ[i]? = some (some v) ∧ Q v H
def tC (v : V) : TE := fun _ H Q => Q v H
theorem pe_var {i : Nat} {x : Str} {pos : Pos} (hN : X.N[i]? = some x) (hv : Vis X.env.scope x) (hd : (x == ("__debug__" : Str)) = false := by decide) (hcd : (x == ("__classdict__" : Str)) = false := by decide) : PE X (.Name x pos) (tVar i) := by
  intro pins s σ H Q I h
  obtain ⟨v, e, h⟩ := h
  obtain ⟨m, hn, hl⟩ := I.loc
  obtain ⟨u, r, l⟩ := hl i x v hN e hv
  have fin : EP X pins σ Q u s := ⟨v, H, I, r, h⟩
  rcases l with ⟨hk, hm⟩ | ⟨hk, c, hc, hcell⟩
  · exact wpAny_Name (wpAny_loadName_local I.ok.kind hk hn hm fin) hd
  · rcases hk with hk | hk
    · exact wpAny_Name (wpAny_loadName_cell I.ok.kind hk hc hcell fin) hd
    · exact wpAny_Name (wpAny_loadName_free I.ok.kind hk hc hcell fin hcd) hd
theorem pe_int {i j pos} : PE X (.Constant (.int i) j pos) (tC (.int i)) := fun _ _ _ H _ I h => wpAny_Constant_int ⟨.int i, H, I.tok _, ⟨_, rfl⟩, h⟩
theorem pe_bl {b j pos} : PE X (.Constant (.bool b) j pos) (tC (.bl b)) := fun _ _ _ H _ I h => Constant_bool ⟨.bl b, H, I, rfl, h⟩
theorem pe_str {x j pos} : PE X (.Constant (.str x) j pos) (tC (.str x)) := fun _ _ _ H _ I h => Calls.Constant_str ⟨.str x, H, I.tok _, ⟨_, rfl⟩, h⟩

def Gl (X : Cx) (x : Str) : Prop := X.env.kindOf x = some .globalImplicit
theorem ld_glob {E : Value → Shared → Prop} {pins : List (Addr × Obj)} {s : Shared} {σ : St} {H : Hp} {x : Str} {u : Value} {pos : Pos} {Q : Value → Shared → Prop} (I : Inv X pins σ H s) (hg : Gl X x) (hm : X.mg x = some u) (h : Q u s)
    (hd : (x == ("__debug__" : Str)) = false := by decide) : wpAny (model X.prog X.w) X.A (eval (.Name x pos) X.env) Q E s :=
  Calls.Name_function_global I.ok.kind hg (Calls.loadGlobal_global (by rw [I.ok.glob]; exact I.mod.glob.keeps I.bk) hm h) hd
theorem ld_blt {E : Value → Shared → Prop} {pins : List (Addr × Obj)} {s : Shared} {σ : St} {H : Hp} {x : Str} {u : Value} {pos : Pos} {Q : Value → Shared → Prop} (I : Inv X pins σ H s) (hg : Gl X x) (hm : X.mg x = none) (hv : bootBuiltins x = some u) (h : Q u s)
    (hn : x ≠ "__name__" := by decide) (hd : (x == ("__debug__" : Str)) = false := by decide) : wpAny (model X.prog X.w) X.A (eval (.Name x pos) X.env) Q E s := by
  obtain ⟨mb, h1, h2⟩ := I.mod.blt
  exact Calls.Name_function_global I.ok.kind hg (Calls.loadGlobal_builtin (by rw [I.ok.glob]; exact I.mod.glob.keeps I.bk) hm (by rw [I.ok.blt]; exact h1.keeps I.bk) ((h2 x hn).trans hv) h) hd
theorem pe_glob {x : Str} {v : V} {u : Value} {pos : Pos} (hg : Gl X x) (hm : X.mg x = some u) (r : RelV v u) (hd : (x == ("__debug__" : Str)) = false := by decide) : PE X (.Name x pos) (tC v) :=
  fun _ _ _ H _ I h => ld_glob I hg hm ⟨v, H, I, r, h⟩ hd
theorem pe_bltn {x : Str} {v : V} {u : Value} {pos : Pos} (hg : Gl X x) (hm : X.mg x = none) (hv : bootBuiltins x = some u) (r : RelV v u) (hn : x ≠ "__name__" := by decide) (hd : (x == ("__debug__" : Str)) = false := by decide) : PE X (.Name x pos) (tC v) :=
  fun _ _ _ H _ I h => ld_blt I hg hm hv ⟨v, H, I, r, h⟩ hn hd

variable {a b : Expr} {ta tb : TE} {pos : Pos}
def tB (t : TE) : TT := fun σ H Q => t σ H fun x H1 => ∃ c, x = .bl c ∧ Q c H1
theorem pt_val {e : Expr} {t : TE} (h : PE X e t) (he : ∀ whole, isTrue e X.env whole = (do let v ← whole; standAt e.pos; holding [v] (truthy v)) := by intro _; rfl) : PT X e (tB t) := by
  intro pins s σ H Q I hw
  refine isTrue_plain (thn (h pins s σ H _ I hw) fun v s1 ⟨x, H1, I1, r1, q1⟩ => ?_) (he _)
  obtain ⟨d, rfl, q⟩ := q1
  cases r1
  exact wpAny_truthy_bool ⟨H1, I1, q⟩

variable {tA tB' : TT} {rest : List Expr}
def tAnd (t u : TT) : TT := fun σ H Q => t σ H fun c H1 => if c = true then u σ H1 Q else Q false H1
def tOr (t u : TT) : TT := fun σ H Q => t σ H fun c H1 => if c = true then Q true H1 else u σ H1 Q
def tNot (t : TT) : TT := fun σ H Q => t σ H fun c H1 => Q (!c) H1
theorem pw_and1 (ha : PT X a tA) : PW X (.BoolOp .And [a] pos) tA := by
  intro wh pins s σ H Q I h
  refine isTrue_and (thn (ha pins s σ H Q I h) fun c s1 e => ?_)
  cases c with
  | true => exact isTrue_and_nil e
  | false => exact e
theorem pw_or1 (ha : PT X a tA) : PW X (.BoolOp .Or [a] pos) tA := by
  intro wh pins s σ H Q I h
  refine isTrue_or (thn (ha pins s σ H Q I h) fun c s1 e => ?_)
  cases c with
  | false => exact isTrue_or_nil e
  | true => exact e
theorem pw_and (ha : PT X a tA) (hb : PW X (.BoolOp .And (b :: rest) pos) tB') : PW X (.BoolOp .And (a :: b :: rest) pos) (tAnd tA tB') := by
  intro wh pins s σ H Q I h
  refine isTrue_and (thn (ha pins s σ H _ I h) fun c s1 ⟨H1, I1, q1⟩ => ?_)
  cases c with
  | true => exact hb wh pins s1 σ H1 Q I1 q1
  | false => exact ⟨H1, I1, q1⟩
theorem pw_or (ha : PT X a tA) (hb : PW X (.BoolOp .Or (b :: rest) pos) tB') : PW X (.BoolOp .Or (a :: b :: rest) pos) (tOr tA tB') := by
  intro wh pins s σ H Q I h
  refine isTrue_or (thn (ha pins s σ H _ I h) fun c s1 ⟨H1, I1, q1⟩ => ?_)
  cases c with
  | true => exact ⟨H1, I1, q1⟩
  | false => exact hb wh pins s1 σ H1 Q I1 q1
theorem pt_not (ha : PT X a tA) : PT X (.UnaryOp .Not a pos) (tNot tA) := by
  intro pins s σ H Q I h
  exact isTrue_not (ha pins s σ H (fun c H1 => Q (!c) H1) I h)
def tAndV (ta tb : TE) : TE := fun σ H Q => ta σ H fun x H1 => ∃ c, x = .bl c ∧ if c = true then tb σ H1 Q else Q (.bl false) H1
def tOrV (ta tb : TE) : TE := fun σ H Q => ta σ H fun x H1 => ∃ c, x = .bl c ∧ if c = true then Q (.bl true) H1 else tb σ H1 Q
def tNotV (ta : TE) : TE := fun σ H Q => ta σ H fun x H1 => ∃ c, x = .bl c ∧ Q (.bl (!c)) H1
theorem pe_one {op} {t : TE} (h : PE X a t) : PE X (.BoolOp op [a] pos) t := fun pins s σ H Q I hw => BoolOp_one (h pins s σ H Q I hw)
theorem pe_and (ha : PE X a ta) (hb : PE X (.BoolOp .And (b :: rest) pos) tb) : PE X (.BoolOp .And (a :: b :: rest) pos) (tAndV ta tb) := by
  intro pins s σ H Q I h
  refine BoolOp_and (thn (ha pins s σ H _ I h) fun v s1 ⟨x, H1, I1, r1, q1⟩ => ?_)
  obtain ⟨c, rfl, q1⟩ := q1
  cases r1
  refine wpAny_truthy_bool ?_
  cases c with
  | true => exact hb pins s1 σ H1 Q I1 q1
  | false => exact ⟨.bl false, H1, I1, rfl, q1⟩
theorem pe_or (ha : PE X a ta) (hb : PE X (.BoolOp .Or (b :: rest) pos) tb) : PE X (.BoolOp .Or (a :: b :: rest) pos) (tOrV ta tb) := by
  intro pins s σ H Q I h
  refine BoolOp_or (thn (ha pins s σ H _ I h) fun v s1 ⟨x, H1, I1, r1, q1⟩ => ?_)
  obtain ⟨c, rfl, q1⟩ := q1
  cases r1
  refine wpAny_truthy_bool ?_
  cases c with
  | false => exact hb pins s1 σ H1 Q I1 q1
  | true => exact ⟨.bl true, H1, I1, rfl, q1⟩
theorem pe_not (ha : PE X a ta) : PE X (.UnaryOp .Not a pos) (tNotV ta) := by
  intro pins s σ H Q I h
  refine UnaryOp_ (thn (ha pins s σ H _ I h) fun v s1 ⟨x, H1, I1, r1, q1⟩ => ?_)
  obtain ⟨c, rfl, q1⟩ := q1
  cases r1
  exact not_of (wpAny_truthy_bool ⟨.bl (!c), H1, I1, rfl, q1⟩)
end
end L2

namespace L2
open PySem PySem.Spec PyProof.Rows

def SqL (K : PySem.W.Frag) (H : Hp) (a : Addr) (xs : List V) : Prop :=
  Rd H a (.lst xs) ∨
    ∃ (o : Obj) (its : Array Value) (n : Nat), K.lookup a = some o ∧ o.cls = .type "list" ∧ o.dict = none ∧ o.data = .seq its n ∧ its.size ≤ sizeLine ∧ Vals xs its.toList
def SqT (K : PySem.W.Frag) (H : Hp) (a : Addr) (xs : List V) : Prop :=
  Rd H a (.tup xs) ∨
    ∃ (o : Obj) (its : Array Value) (n : Nat), K.lookup a = some o ∧ o.cls = .type "tuple" ∧ o.data = .seq its n ∧ its.size ≤ sizeLine ∧ Vals xs its.toList
section
variable {X : Cx} {pins : List (Addr × Obj)} {σ : St} {H : Hp} {s : Shared} {a : Addr} {xs ys : List V}
theorem SqL.of {K : PySem.W.Frag} (h : H a = some (.lst xs)) : SqL K H a xs := .inl (.inl h)
theorem SqT.of {K : PySem.W.Frag} (h : H a = some (.tup xs)) : SqT K H a xs := .inl (.inl h)
theorem Inv.list (I : Inv X pins σ H s) (h : SqL X.K H a xs) : ∃ its : List Value, Vals xs its ∧ PlainL s.heap a its.toArray ∧ xs.length ≤ sizeLine := by
  rcases h with h | ⟨o, its, n, hk, hc, hd, hs, hz, r⟩
  · obtain ⟨z, its, n, r, e⟩ := h.ok I.hok
    exact ⟨its, r, ⟨_, n, e, rfl, rfl, rfl⟩, z⟩
  · refine ⟨its.toList, r, ⟨o, n, I.kIn a o hk, hc, hd, by simpa using hs⟩, ?_⟩
    have e := r.length
    simp only [Array.length_toList] at e
    omega
theorem Inv.tuple (I : Inv X pins σ H s) (h : SqT X.K H a xs) : ∃ its : List Value, Vals xs its ∧ IsTup s.heap a its.toArray ∧ xs.length ≤ sizeLine := by
  rcases h with h | ⟨o, its, n, hk, hc, hs, hz, r⟩
  · obtain ⟨z, its, r, p⟩ := h.ok I.hok
    exact ⟨its, r, p, z⟩
  · refine ⟨its.toList, r, ⟨o, I.kIn a o hk, hc, n, by simpa using hs⟩, ?_⟩
    have e := r.length
    simp only [Array.length_toList] at e
    omega
end

abbrev Cx.wish (X : Cx) (E : Value → Shared → Prop) : Cx := { X with xe := E }
abbrev Cx.nox (X : Cx) : Cx := X.wish fun _ _ => False
theorem Cx.Ok.wish {X : Cx} (ok : X.Ok) (E : Value → Shared → Prop) : (X.wish E).Ok :=
  ⟨ok.mod, ok.kind, ok.glob, ok.blt, ok.above, ok.inj, ok.has, ok.cab, ok.hd, ok.frames, ok.stk, ok.exf, ok.bs, ok.bsz, ok.noex, ok.exfs, ok.funs, ok.frf⟩
theorem Cx.Ok.unwish {X : Cx} {E : Value → Shared → Prop} (ok : (X.wish E).Ok) : X.Ok :=
  ⟨ok.mod, ok.kind, ok.glob, ok.blt, ok.above, ok.inj, ok.has, ok.cab, ok.hd, ok.frames, ok.stk, ok.exf, ok.bs, ok.bsz, ok.noex, ok.exfs, ok.funs, ok.frf⟩
section
variable {X : Cx} {pins : List (Addr × Obj)} {σ : St} {H : Hp} {s : Shared} {E : Value → Shared → Prop}
theorem Inv.wish (I : Inv X pins σ H s) (E : Value → Shared → Prop) : Inv (X.wish E) pins σ H s := ⟨I.ok.wish E, I.os, I.bare, I.base, I.loc, I.cell, I.free, I.freeC, I.pin, I.hok, I.len⟩
theorem Inv.unwish (I : Inv (X.wish E) pins σ H s) : Inv X pins σ H s := ⟨I.ok.unwish, I.os, I.bare, I.base, I.loc, I.cell, I.free, I.freeC, I.pin, I.hok, I.len⟩
theorem SP.unwish {D : Ends} {f : Flow} {s' : Shared} (h : SP (X.wish E) pins D f s') : SP X pins D f s' := by
  cases f with
  | next => obtain ⟨σ', H', I, q⟩ := h; exact ⟨σ', H', I.unwish, q⟩
  | brk => obtain ⟨σ', H', I, q⟩ := h; exact ⟨σ', H', I.unwish, q⟩
  | cont => obtain ⟨σ', H', I, q⟩ := h; exact ⟨σ', H', I.unwish, q⟩
  | ret u => obtain ⟨v, σ', H', I, r, q⟩ := h; exact ⟨v, σ', H', I.unwish, r, q⟩
theorem PSs.nox {st : List Stmt} {t : TS} (h : PSs X.nox st t) : PSs X st t := fun pins s σ H D I hw =>
  wpAny_mono (h pins s σ H D (I.wish _) hw) (fun _ _ q => q.unwish) fun _ _ z => False.elim z
end

section
variable {X : Cx} {st : Stmt} {rest : List Stmt} {t u : TS} {e : Expr} {te : TE} {pos : Pos}
def tNext : TS := fun D σ H => D.nx σ H
def tSeq (t u : TS) : TS := fun D σ H => t { D with nx := u D } σ H
theorem pss_nil : PSs X [] tNext := fun _ _ σ H _ I h => wpAny_execs_nil ⟨σ, H, I, h⟩
theorem pss_cons (h1 : PS X st t) (h2 : PSs X rest u) : PSs X (st :: rest) (tSeq t u) := by
  intro pins s σ H D I h
  refine wpAny_execs_cons (thn (h1 pins s σ H { D with nx := u D } I h) fun f s1 q => ?_)
  cases f with
  | next =>
    obtain ⟨σ', H', I', q⟩ := q
    exact h2 pins s1 σ' H' D I' q
  | ret v => exact q
  | brk => exact q
  | cont => exact q
theorem pss_one (h1 : PS X st t) : PSs X [st] t := by
  intro pins s σ H D I h
  refine wpAny_execs_cons (thn (h1 pins s σ H D I h) fun f s1 q => ?_)
  cases f with
  | next => exact wpAny_execs_nil q
  | ret v => exact q
  | brk => exact q
  | cont => exact q
theorem Inv.quiet {pins : List (Addr × Obj)} {σ : St} {H : Hp} {s : Shared} (I : Inv X pins σ H s) : interactive X.env = false := by simp [interactive, I.ok.kind]
def tDrop (te : TE) : TS := fun D σ H => te σ H fun _ H1 => D.nx σ H1
theorem ps_expr (he : PE X e te) (hs : swapsWith e none pos.line X.env = pure false := by rfl) : PS X (.Expr e pos) (tDrop te) := by
  intro pins s σ H D I h
  exact wpAny_Expr_any (thn (he pins s σ H _ I h) fun v s1 ⟨x, H1, I1, r1, q1⟩ => ⟨σ, H1, I1, q1⟩) I.quiet hs
def tRet (te : TE) : TS := fun D σ H => te σ H D.rt
theorem ps_ret (he : PE X e te) : PS X (.Return (some e) pos) (tRet te) := by
  intro pins s σ H D I h
  exact wpAny_Return_some (thn (he pins s σ H _ I h) fun v s1 ⟨x, H1, I1, r1, q1⟩ => ⟨x, σ, H1, I1, r1, q1⟩)
def tIfS (c : TT) (t u : TS) : TS := fun D σ H => c σ H fun b H1 => if b = true then t D σ H1 else u D σ H1
theorem ps_if {c : Expr} {a b : List Stmt} {tc : TT} (hc : PT X c tc) (ha : PSs X a t) (hb : PSs X b u) : PS X (.If c a b pos) (tIfS tc t u) := by
  intro pins s σ H D I h
  refine wpAny_If (thn (hc pins s σ H _ I h) fun d s1 ⟨H1, I1, q1⟩ => ?_)
  cases d with
  | true => exact ha pins s1 σ H1 D I1 q1
  | false => exact hb pins s1 σ H1 D I1 q1
end

abbrev TG := V → St → Hp → (St → Hp → Prop) → Prop
def PG (X : Cx) (target : Expr) (t : TG) : Prop :=
  ∀ (pins : List (Addr × Obj)) (s : Shared) (σ : St) (H : Hp) (v : V) (u : Value) (Q : St → Hp → Prop), Inv X pins σ H s → RelV v u → t v σ H Q →
    wpAny (model X.prog X.w) X.A (assign target X.env u) (fun _ s' => ∃ σ' H', Inv X pins σ' H' s' ∧ Q σ' H') X.xe s
section
variable {X : Cx} {pos : Pos}
def gName (i : Nat) : TG := fun v σ H Q => Q (σ.set i (some v)) H
theorem pg_name {i : Nat} {x : Str} (hN : X.N.Nodup) (hi : X.N[i]? = some x) (hx : Loc X.env.scope x) (hf : X.fn x = true ∨ X.env.scope.names.lookup x = some .local := by first | exact .inl rfl | exact .inr rfl | assumption) : PG X (.Name x pos) (gName i) := by
  intro pins s σ H v u Q I r h
  exact wpAny_assign_Name (store_ok I hN hi hx r (fun s' I' => ⟨_, H, I', h⟩) hf)
def tAsg (te : TE) (g : TG) : TS := fun D σ H => te σ H fun x H1 => g x σ H1 D.nx
theorem ps_set {i : Nat} {x : Str} {e : Expr} {te : TE} {pos' : Pos} (hN : X.N.Nodup) (hi : X.N[i]? = some x) (hx : Loc X.env.scope x) (he : PE X e te) (hs : swapsWith e (some (.Name x pos')) pos.line X.env = pure false := by rfl) (hf : X.fn x = true ∨ X.env.scope.names.lookup x = some .local := by first | exact .inl rfl | exact .inr rfl | assumption) :
    PS X (.Assign [.Name x pos'] e pos) (tAsg te (gName i)) := by
  intro pins s σ H D I h
  refine wpAny_Assign_Name (thn (he pins s σ H _ I h) fun v s1 ⟨y, H1, I1, r1, q1⟩ => ?_) hs
  exact store_ok I1 hN hi hx r1 (fun s2 I2 => ⟨_, H1, I2, q1⟩) hf
end

section
variable {X : Cx} {pos : Pos}
end

structure It where
  go : Nat → Hp → Prop
  yld : Nat → Hp → V → Hp → Prop
  stop : Nat → Hp → Prop
def FpOk (X : Cx) (pins : List (Addr × Obj)) (H : Hp) (b : Addr) : Prop :=
  H b = none ∧ b ≠ X.env.locals ∧ b ∉ X.fs ∧ (b ∈ X.ex ∨ X.s₀.heap.objs.size ≤ b) ∧ (∀ x c, X.env.cells.lookup x = some c → c ≠ b) ∧ ∀ p ∈ X.pn ++ pins, p.1 ≠ b
theorem Inv.fpOk {X : Cx} {pins : List (Addr × Obj)} {σ : St} {H H' : Hp} {s : Shared} {b : Addr} (I : Inv X pins σ H s) (hb : s.heap.objs.size ≤ b) (hn : H' b = none) : FpOk X pins H' b := by
  refine ⟨hn, Nat.ne_of_gt (Nat.lt_of_lt_of_le I.lt hb), I.nofs hb, .inr (Nat.le_trans I.sz hb), fun x c e z => ?_, fun p hp z => ?_⟩
  · obtain ⟨v, q⟩ := I.cell x c e
    exact absurd (Nat.lt_of_lt_of_le q.lt (by rw [z]; exact hb)) (Nat.lt_irrefl _)
  · exact absurd (Nat.lt_of_lt_of_le (Heap.lt_size (I.pin p hp).1) (by rw [z]; exact hb)) (Nat.lt_irrefl _)
structure Turn (P : Program) (w : World) (K : PySem.W.Frag) (tg : Expr) (J : It) (fp : List Addr) (it : Addr) (tn : Nat → Heap → Prop) : Prop where
  mem : it ∈ fp
  obj : ∀ i h, tn i h → ∀ b ∈ fp, ∃ o, h.get? b = some o ∧ ∀ v, o.data ≠ .cell v
  keep : ∀ i h h', tn i h → (∀ b ∈ fp, ∀ o, h.get? b = some o → h'.get? b = some o) → tn i h'
  item : ∀ (X : Cx), X.prog = P → X.w = w → X.K = K → X.calm = true → ∀ (i : Nat) (pins : List (Addr × Obj)) (s : Shared) (σ : St) (H : Hp) (E : Value → Shared → Prop), Inv X pins σ H s → (∀ b ∈ fp, FpOk X pins H b) → tn i s.heap → J.go i H →
    wpAny (model P w) X.A (pyNext (.ref it)) (fun r s1 => ∃ u, r = some u ∧
      wpAny (model P w) X.A (letOwnedTupleGo tg (.ref it) u) (fun _ s2 => ∃ x H', Inv X pins σ H' s2 ∧ RelV x u ∧ J.yld i H x H' ∧ tn (i + 1) s2.heap ∧ ∀ b ∈ fp, H' b = none) E s1) E s
  done : ∀ (X : Cx), X.prog = P → X.w = w → X.K = K → X.calm = true → ∀ (i : Nat) (pins : List (Addr × Obj)) (s : Shared) (σ : St) (H : Hp) (E : Value → Shared → Prop), Inv X pins σ H s → (∀ b ∈ fp, FpOk X pins H b) → tn i s.heap → J.stop i H →
    wpAny (model P w) X.A (pyNext (.ref it)) (fun r s1 => r = none ∧ Inv X pins σ H s1) E s
  self : ∀ (A : Around) (i : Nat) (s : Shared) (Q : Value → Shared → Prop) (E : Value → Shared → Prop), tn i s.heap → Q (.ref it) s → wpAny (model P w) A (pyIter (.ref it)) Q E s
abbrev TI := St → Hp → (It → Hp → Prop) → Prop
def PIE (X : Cx) (pins : List (Addr × Obj)) (σ : St) (tg : Expr) (R : It → Hp → Prop) (itv : Value) (s2 : Shared) : Prop :=
  ∃ (it : Addr) (fp : List Addr) (tn : Nat → Heap → Prop) (J : It) (H' : Hp), itv = .ref it ∧ Inv X pins σ H' s2 ∧ Turn X.prog X.w X.K tg J fp it tn ∧ tn 0 s2.heap ∧ (∀ b ∈ fp, FpOk X pins H' b) ∧ R J H'
def PI (X : Cx) (tg iter : Expr) (wi : TI) : Prop :=
  ∀ (pins : List (Addr × Obj)) (s : Shared) (σ : St) (H : Hp) (R : It → Hp → Prop), Inv X pins σ H s → wi σ H R →
    wpAny (model X.prog X.w) X.A (eval iter X.env) (fun v s1 => wpAny (model X.prog X.w) X.A (pyIter v) (PIE X pins σ tg R) X.xe s1) X.xe s

theorem go_of {M : Model} {A : Around} {E : Value → Shared → Prop} {s : Shared} {tg : Expr} {it : Addr} {u : Value} {o : Obj} {n : String} {vs : Array Value} {Q : Unit → Shared → Prop} (ho : s.heap.get? it = some o) (hc : o.cls = .type n) (hd : o.data = .fields vs)
    (hn : ["enumerate", "zip", "dict_itemiterator", "dict_reverseitemiterator", "odict_iterator", "itertools.zip_longest", "itertools.pairwise"].contains n = false) (hQ : Q () s) : wpAny M A (letOwnedTupleGo tg (.ref it) u) Q E s := by
  unfold letOwnedTupleGo
  cases tg <;> first
    | exact wpAny_pure hQ
    | (cases u <;> first
        | exact wpAny_pure hQ
        | (refine wpAny_bind (wpAny_load ho ?_)
           rw [hc, hd]
           show wpAny M A (if (["enumerate", "zip", "dict_itemiterator", "dict_reverseitemiterator", "odict_iterator", "itertools.zip_longest", "itertools.pairwise"].contains n && vs[0]? == some (rawInt _)) = true then _ else _) Q E s
           rw [if_neg (by intro h; rw [hn, Bool.false_and] at h; cases h)]
           exact wpAny_pure hQ))

def Itr (lo : Int) (n : Nat) : It := ⟨fun i _ => i < n, fun i H x H' => H' = H ∧ x = .int (lo + i), fun i _ => n ≤ i⟩
theorem turn_range {P : Program} {w : World} {K : PySem.W.Frag} {tg : Expr} (it : Addr) (lo : Int) (n : Nat) : Turn P w K tg (Itr lo n) [it] it (fun i h => IsRangeIter h it (lo + (i : Nat) * 1) ((n : Int) - (i : Nat)) 1) where
  mem := by simp
  obj := fun i h st b hb => by
    have e : b = it := by simpa using hb
    subst e
    exact ⟨_, st, fun v z => by
      have z' : Data.fields _ = Data.cell v := z
      cases z'⟩
  keep := fun i h h' st k => k it (by simp) _ st
  item := by
    intro X hP hw hK hc i pins s σ H E I hf st hg
    subst hP hw hK
    obtain ⟨f0, f1, f2, f3, f4, f5⟩ := hf it (by simp)
    have W := Walks.range (prog := X.prog) (w := X.w) (I.ok.hd hc) it lo 1 n
    refine W.item i s _ _ hg st fun v h' tk hv st' kk => ?_
    obtain ⟨t, rfl⟩ := hv
    have I1 : Inv X pins σ H { s with heap := h', toks := tk } := I.turned (fun b o hb e => kk b o (by simpa using hb) e) f0 f1 f3 f4 f5
    refine ⟨_, rfl, go_of (s := { s with heap := h', toks := tk }) (n := "range_iterator") st' rfl rfl (by decide) ⟨.int (lo + i), H, I1, ⟨t, ?_⟩, ⟨rfl, rfl⟩, st', fun b hb => (hf b hb).1⟩⟩
    rw [Int.mul_one]
  done := by
    intro X hP hw hK hc i pins s σ H E I hf st hg
    subst hP hw hK
    obtain ⟨f0, f1, f2, f3, f4, f5⟩ := hf it (by simp)
    exact wpAny_pyNext_range_end (I.ok.hd hc) st (by have : n ≤ i := hg; omega) fun h' eb => ⟨rfl, I.turned (t' := s.toks) (fun b o hb e => eb b o hb e) f0 f1 f3 f4 f5⟩
  self := fun _ _ _ _ _ st h => wpAny_pyIter_rangeiter st h
end L2

namespace L2
open PySem PySem.Spec PyProof.Rows
section
variable {X : Cx} {tg : Expr}
theorem range_it {pins : List (Addr × Obj)} {σ : St} {H : Hp} {s : Shared} {R : It → Hp → Prop} {E : Value → Shared → Prop} {lo hi : Int} {t u v : Tok} {tk : Nat} (I : Inv X pins σ H s) (h1 : -(2 ^ 62) ≤ lo) (h2 : lo < 2 ^ 62) (h3 : -(2 ^ 62) ≤ hi) (h4 : hi < 2 ^ 62)
    (q : R (Itr lo (hi - lo).toNat) H) : wpAny (model X.prog X.w) X.A (pyIter (.ref s.heap.objs.size)) (PIE X pins σ tg R) E { s with heap := s.heap.push { cls := .type "range", data := .fields #[.int lo t, .int hi u, .int 1 v] }, toks := tk } := by
  refine wpAny_pyIter_range (IsRange.new ..) (small_one h1 h2 h3 h4) ?_
  have I1 : Inv X pins σ H { s with heap := s.heap.push { cls := .type "range", data := .fields #[.int lo t, .int hi u, .int 1 v] }, toks := tk } := I.kept fun b o e => Heap.get?_push_of_some _ e
  refine ⟨(s.heap.push { cls := .type "range", data := .fields #[.int lo t, .int hi u, .int 1 v] }).objs.size, [(s.heap.push { cls := .type "range", data := .fields #[.int lo t, .int hi u, .int 1 v] }).objs.size], _, _, H, rfl,
    I1.kept (t' := tk) fun b o e => Heap.get?_push_of_some _ e, turn_range _ lo (hi - lo).toNat, ?_, fun b hb => ?_, q⟩
  · have e1 : lo + ((0 : Nat) : Int) * 1 = lo := by simp
    have e2 : (((hi - lo).toNat : Nat) : Int) - ((0 : Nat) : Int) = Builtin.Range.rangeSize lo hi 1 := by rw [rangeSize_one]; split <;> omega
    show IsRangeIter _ _ (lo + ((0 : Nat) : Int) * 1) ((((hi - lo).toNat : Nat) : Int) - ((0 : Nat) : Int)) 1
    rw [e1, e2]
    exact Heap.get?_push_size _ rfl
  · have e : b = (s.heap.push { cls := .type "range", data := .fields #[.int lo t, .int hi u, .int 1 v] }).objs.size := by simpa using hb
    subst e
    exact I1.fpOk (Nat.le_refl _) (I1.hok.fresh (Nat.le_refl _))
def iRng1 (ta : TA) : TI := fun σ H R => ta σ H fun vs H1 => ∃ j : Int, vs = [.int j] ∧ -(2 ^ 62) ≤ j ∧ j < 2 ^ 62 ∧ R (Itr 0 j.toNat) H1
theorem pi_range1 {a : Expr} {ta : TA} {p pos : Pos} (hg : Gl X "range") (hm : X.mg "range" = none) (ha : PA X [a] ta) (hs : starEach [a] X.env = [(false, eval a X.env)] := by rfl) : PI X tg (.Call (.Name "range" p) [a] [] pos) (iRng1 ta) := by
  intro pins s σ H R I h
  refine Call_ (ld_blt I hg hm boot_range (PyProof.Rows.callWith_type1 (thn (ha pos pins s σ H _ I h) fun us s1 ⟨vs, H1, I1, r1, q1⟩ => ?_) hs rfl))
  obtain ⟨j, e, q1, q2, q⟩ := q1
  subst e
  cases r1 with
  | cons r rr =>
    cases rr
    obtain ⟨t, rfl⟩ := r
    exact call_range_1 (range_it I1 (by omega) (by omega) q1 q2 (by simpa using q))
def tFor (wi : TI) (g : TG) (tb : TS) : TS := fun D σ H => wi σ H fun J H1 => ∃ W : Nat → Nat → St → Hp → Prop, (∃ m, W 0 m σ H1) ∧ ∀ i m σ H, W i m σ H →
  (J.stop i H ∧ D.nx σ H) ∨ (J.go i H ∧ ∃ N : St → Hp → Prop, (∀ σ' H', N σ' H' → ∃ m', m' < m ∧ W (i + 1) m' σ' H') ∧ ∀ x H', J.yld i H x H' → g x σ H' fun σ2 H2 => tb { D with nx := N, ct := N, bk := D.nx } σ2 H2)
def pinsAt (fp : List Addr) (h : Heap) : List (Addr × Obj) := fp.filterMap fun b => (h.get? b).map fun o => (b, o)
theorem mem_pinsAt {fp : List Addr} {h : Heap} {b : Addr} {o : Obj} (hb : b ∈ fp) (e : h.get? b = some o) : (b, o) ∈ pinsAt fp h := List.mem_filterMap.mpr ⟨b, hb, by rw [e]; rfl⟩
theorem of_pinsAt {fp : List Addr} {h : Heap} {p : Addr × Obj} (hp : p ∈ pinsAt fp h) : p.1 ∈ fp ∧ h.get? p.1 = some p.2 := by
  obtain ⟨b, hb, e⟩ := List.mem_filterMap.mp hp
  cases q : h.get? b with
  | none => rw [q] at e; cases e
  | some o =>
    rw [q] at e
    have e' : (b, o) = p := Option.some.inj e
    subst e'
    exact ⟨hb, q⟩
theorem Inv.pinned {pins : List (Addr × Obj)} {σ : St} {H : Hp} {s : Shared} {fp : List Addr} (I : Inv X pins σ H s) (hf : ∀ b ∈ fp, FpOk X pins H b) (ho : ∀ b ∈ fp, ∃ o, s.heap.get? b = some o ∧ ∀ v, o.data ≠ .cell v) : Inv X (pins ++ pinsAt fp s.heap) σ H s :=
  I.pins_of fun p hp => (List.mem_append.mp hp).elim (fun z => I.pin p (List.mem_append_right _ z)) fun z => by
    obtain ⟨hb, e⟩ := of_pinsAt z
    obtain ⟨f0, f1, f2, _⟩ := hf p.1 hb
    obtain ⟨o, e', d⟩ := ho p.1 hb
    rw [e] at e'; cases e'
    exact ⟨e, f0, f1, f2, d⟩
theorem Inv.unpinned {pins pl : List (Addr × Obj)} {σ : St} {H : Hp} {s : Shared} (I : Inv X (pins ++ pl) σ H s) : Inv X pins σ H s := I.pins_of fun p hp => I.pin p (List.mem_append_right _ (List.mem_append_left _ hp))
theorem ps_for {iter : Expr} {body : List Stmt} {wi : TI} {g : TG} {tb : TS} {pos : Pos} (hp : PassesOwn (model X.prog X.w) X.A X.env X.xe) (hc : X.calm = true) (hi : PI X tg iter wi) (hg : PG X tg g) (hb : PSs X body tb)
    (hs : ∀ x, foldedSetIterable iter X.env x = pure x := by intro _; rfl) : PS X (.For tg iter body [] pos) (tFor wi g tb) := by
  intro pins s σ H D I h
  refine wpAny_For (thn (hi pins s σ H _ I h) fun v s1 h1 => thn h1 fun itv s2 h2 => ?_) hs
  obtain ⟨it, fp, tn, J, H2, e, I2, T, st2, f2, W, ⟨m0, w0⟩, turn⟩ := h2
  subst e
  -- what stays true of the iterator's objects through the loop
  have stat : ∀ {H' : Hp}, (∀ b ∈ fp, H' b = none) → ∀ b ∈ fp, FpOk X pins H' b := fun hn b hb => ⟨hn b hb, (f2 b hb).2⟩
  refine codeAny_forLoop_any (fun n s' => ∃ i σ' H', Inv X pins σ' H' s' ∧ tn i s'.heap ∧ (∀ b ∈ fp, H' b = none) ∧ W i n σ' H') ?_ m0 ⟨0, σ, H2, I2, st2, fun b hb => (f2 b hb).1, w0⟩
  rintro n s3 ⟨i, σ3, H3, I3, st3, fr3, w3⟩
  rcases turn i n σ3 H3 w3 with ⟨stop, qn⟩ | ⟨go, N, hN, step⟩
  · refine wpAny_passesOwn hp (thn (T.done X rfl rfl rfl hc i pins s3 σ3 H3 X.xe I3 (stat fr3) st3 stop) fun r s4 ⟨hr, I4⟩ => ?_)
    subst hr
    exact wpAny_execs_nil ⟨σ3, H3, I4, qn⟩
  · refine wpAny_passesOwn hp (thn (T.item X rfl rfl rfl hc i pins s3 σ3 H3 X.xe I3 (stat fr3) st3 go) fun r s4 ⟨u, hr, h4⟩ => ?_)
    subst hr
    refine wpAny_passesOwn hp (thn h4 fun _ s5 ⟨x, H5, I5, r5, y5, st5, fr5⟩ => ?_)
    have I5' := I5.pinned (stat fr5) (T.obj _ _ st5)
    refine wpAny_passesOwn hp (thn (hg _ s5 σ3 H5 x u _ I5' r5 (step x H5 y5)) fun _ s6 ⟨σ6, H6, I6, q6⟩ => ?_)
    refine wpAny_passesOwn hp (thn (hb _ s6 σ6 H6 _ I6 q6) fun f s7 q7 => ?_)
    have again : ∀ {σ7 : St} {H7 : Hp}, Inv X (pins ++ pinsAt fp s5.heap) σ7 H7 s7 → N σ7 H7 → ∃ m, m < n ∧ ∃ i σ' H', Inv X pins σ' H' s7 ∧ tn i s7.heap ∧ (∀ b ∈ fp, H' b = none) ∧ W i m σ' H' := fun {σ7 H7} I7 n7 => by
      obtain ⟨m', hm, w7⟩ := hN σ7 H7 n7
      refine ⟨m', hm, i + 1, σ7, H7, I7.unpinned, T.keep _ _ _ st5 fun b hb o e => (I7.pin (b, o) (List.mem_append_right _ (List.mem_append_right _ (mem_pinsAt hb e)))).1, fun b hb => ?_, w7⟩
      obtain ⟨o, e, d⟩ := T.obj _ _ st5 b hb
      exact (I7.pin (b, o) (List.mem_append_right _ (List.mem_append_right _ (mem_pinsAt hb e)))).2.1
    cases f with
    | next => obtain ⟨σ7, H7, I7, n7⟩ := q7; exact again I7 n7
    | cont => obtain ⟨σ7, H7, I7, n7⟩ := q7; exact again I7 n7
    | brk => obtain ⟨σ7, H7, I7, q7⟩ := q7; exact ⟨σ7, H7, I7.unpinned, q7⟩
    | ret v => obtain ⟨x7, σ7, H7, I7, r7, q7⟩ := q7; exact ⟨x7, σ7, H7, I7.unpinned, r7, q7⟩
end

theorem for_range {lo : Int} {n : Nat} {g : TG} {tb : TS} {D : Ends} {σ : St} {H : Hp} (Pv : Nat → St → Hp → Prop) (h0 : Pv 0 σ H)
    (hs : ∀ i σ H, i < n → Pv i σ H → g (.int (lo + i)) σ H fun σ2 H2 => tb { D with nx := Pv (i + 1), ct := Pv (i + 1), bk := D.nx } σ2 H2) (hd : ∀ σ H, Pv n σ H → D.nx σ H) :
    ∃ W : Nat → Nat → St → Hp → Prop, (∃ m, W 0 m σ H) ∧ ∀ i m σ H, W i m σ H →
      ((Itr lo n).stop i H ∧ D.nx σ H) ∨ ((Itr lo n).go i H ∧ ∃ N : St → Hp → Prop, (∀ σ' H', N σ' H' → ∃ m', m' < m ∧ W (i + 1) m' σ' H') ∧ ∀ x H', (Itr lo n).yld i H x H' → g x σ H' fun σ2 H2 => tb { D with nx := N, ct := N, bk := D.nx } σ2 H2) := by
  refine ⟨fun i m σ H => m = n - i ∧ i ≤ n ∧ Pv i σ H, ⟨n, by simp, Nat.zero_le _, h0⟩, ?_⟩
  rintro i m σ H ⟨rfl, hi, p⟩
  by_cases hlt : i < n
  · refine .inr ⟨hlt, Pv (i + 1), fun σ' H' p' => ⟨n - (i + 1), by omega, rfl, hlt, p'⟩, fun x H' y => ?_⟩
    obtain ⟨e, y⟩ := y
    subst e y
    exact hs i σ _ hlt p
  · have e : i = n := by omega
    subst e
    exact .inl ⟨Nat.le_refl _, hd σ H p⟩
end L2

namespace L2
open PySem PySem.Spec PyProof.Rows

abbrev R2 := V → V → Hp → VK → Prop
def OpR (X : Cx) (f : Value → Value → Sem Value) (r : R2) : Prop :=
  ∀ (pins : List (Addr × Obj)) (s : Shared) (σ : St) (H : Hp) (x y : V) (v u : Value) (Q : VK), Inv X pins σ H s → RelV x v → RelV y u → r x y H Q →
    wpAny (model X.prog X.w) X.A (f v u) (EP X pins σ Q) X.xe s
def CallR (X : Cx) (f : Value) (r : List V → Hp → VK → Prop) : Prop :=
  ∀ (pins : List (Addr × Obj)) (s : Shared) (σ : St) (H : Hp) (xs : List V) (us : List Value) (Q : VK), Inv X pins σ H s → Vals xs us → r xs H Q →
    wpAny (model X.prog X.w) X.A (call f us) (EP X pins σ Q) X.xe s
def tOp (r : R2) (ta tb : TE) : TE := fun σ H Q => ta σ H fun x H1 => tb σ H1 fun y H2 => r x y H2 Q
def rI (C : Int → Int → Prop) (g : Int → Int → V) : R2 := fun x y H Q => ∃ i j, x = .int i ∧ y = .int j ∧ C i j ∧ Q (g i j) H
def rI0 (g : Int → Int → V) : R2 := fun x y H Q => ∃ i j, x = .int i ∧ y = .int j ∧ Q (g i j) H
section
variable {X : Cx} {a b c : Expr} {ta tb tc : TE} {pos : Pos}

theorem binT (ha : PE X a ta) (hb : PE X b tb) {pins : List (Addr × Obj)} {s : Shared} {σ : St} {H : Hp} {R : V → V → Hp → Prop} (I : Inv X pins σ H s)
    (h : ta σ H fun x H1 => tb σ H1 fun y H2 => R x y H2) {Q : Value → Shared → Prop} {f : Value → Value → Sem Value}
    (hf : ∀ v u s2 x y H2, Inv X pins σ H2 s2 → RelV x v → RelV y u → R x y H2 → wpAny (model X.prog X.w) X.A (f v u) Q X.xe s2) :
    wpAny (model X.prog X.w) X.A (eval a X.env) (fun v s₁ => wpAny (model X.prog X.w) X.A (eval b X.env) (fun u s₂ => wpAny (model X.prog X.w) X.A (f v u) Q X.xe s₂) X.xe s₁) X.xe s := by
  refine thn (ha pins s σ H _ I h) fun v s1 ⟨x, H1, I1, r1, q1⟩ => ?_
  refine thn (hb pins s1 σ H1 _ I1 q1) fun u s2 ⟨y, H2, I2, r2, q2⟩ => ?_
  exact hf v u s2 x y H2 I2 r1 r2 q2

theorem pe_op {op : Operator} {r : R2} (ho : OpR X (binaryOp op) r) (ha : PE X a ta) (hb : PE X b tb) : PE X (.BinOp a op b pos) (tOp r ta tb) := by
  intro pins s σ H Q I h
  exact wpAny_BinOp (binT ha hb I h fun v u s2 x y H2 I2 rx ry q => ho pins s2 σ H2 x y v u Q I2 rx ry q)
theorem opI {f : Value → Value → Sem Value} {C : Int → Int → Prop} {g : Int → Int → Int}
    (rule : ∀ (i j : Int) (t u : Tok) (s : Shared) (Q : Value → Shared → Prop) (E : Value → Shared → Prop), C i j → Q (.int (g i j) s.toks) { s with toks := s.toks + 1 } → wpAny (model X.prog X.w) X.A (f (.int i t) (.int j u)) Q E s) :
    OpR X f (rI C fun i j => .int (g i j)) := by
  intro pins s σ H x y v u Q I rx ry h
  obtain ⟨i, j, rfl, rfl, hc, q⟩ := h
  obtain ⟨t, rfl⟩ := rx
  obtain ⟨t', rfl⟩ := ry
  exact rule i j t t' s _ _ hc ⟨.int (g i j), H, I.tok _, ⟨_, rfl⟩, q⟩
theorem opI0 {f : Value → Value → Sem Value} {g : Int → Int → Int}
    (rule : ∀ (i j : Int) (t u : Tok) (s : Shared) (Q : Value → Shared → Prop) (E : Value → Shared → Prop), Q (.int (g i j) s.toks) { s with toks := s.toks + 1 } → wpAny (model X.prog X.w) X.A (f (.int i t) (.int j u)) Q E s) :
    OpR X f (rI0 fun i j => .int (g i j)) := by
  intro pins s σ H x y v u Q I rx ry h
  obtain ⟨i, j, rfl, rfl, q⟩ := h
  obtain ⟨t, rfl⟩ := rx
  obtain ⟨t', rfl⟩ := ry
  exact rule i j t t' s _ _ ⟨.int (g i j), H, I.tok _, ⟨_, rfl⟩, q⟩
theorem opB0 {f : Value → Value → Sem Value} {g : Int → Int → Bool}
    (rule : ∀ (i j : Int) (t u : Tok) (s : Shared) (Q : Value → Shared → Prop) (E : Value → Shared → Prop), Q (.bool (g i j)) s → wpAny (model X.prog X.w) X.A (f (.int i t) (.int j u)) Q E s) :
    OpR X f (rI0 fun i j => .bl (g i j)) := by
  intro pins s σ H x y v u Q I rx ry h
  obtain ⟨i, j, rfl, rfl, q⟩ := h
  obtain ⟨t, rfl⟩ := rx
  obtain ⟨t', rfl⟩ := ry
  exact rule i j t t' s _ _ ⟨.bl (g i j), H, I, rfl, q⟩

def CDiv (i j : Int) : Prop := 0 < j ∧ j < 1073741824
def CPow (i j : Int) : Prop := 0 ≤ j ∧ j ≤ 1000000 ∧ i.natAbs < 2 ^ 64
def CMul (i j : Int) : Prop := (-(2 ^ 64) < i ∧ i < 2 ^ 64) ∨ (-(2 ^ 64) < j ∧ j < 2 ^ 64)
theorem CMul.ok {i j : Int} (h : CMul i j) : IntMulOk i j := by
  rcases h with ⟨h1, h2⟩ | ⟨h1, h2⟩
  · exact .of_left (intBits_le_64 h1 h2)
  · exact .of_right (intBits_le_64 h1 h2)
theorem two_pow_nn (k : Nat) : (0 : Int) ≤ 2 ^ k := by
  rw [two_pow_cast]
  exact Int.natCast_nonneg _

theorem op_add : OpR X (binaryOp .Add) (rI0 fun i j => .int (i + j)) := opI0 fun _ _ _ _ _ _ _ q => add_int q
theorem op_sub : OpR X (binaryOp .Sub) (rI0 fun i j => .int (i - j)) := opI0 fun _ _ _ _ _ _ _ q => sub_int q
theorem op_mul : OpR X (binaryOp .Mult) (rI CMul fun i j => .int (i * j)) := opI fun _ _ _ _ _ _ _ hc q => mul_int q hc.ok
theorem op_fdiv : OpR X (binaryOp .FloorDiv) (rI CDiv fun i j => .int (i / j)) := opI fun i j _ _ _ _ _ hc q => by
  have h1 : (0 : Int) < j := hc.1
  have h2 : j < 1073741824 := hc.2
  exact floordiv_int (by omega) (by rw [Int.fdiv_eq_ediv_of_nonneg i (by omega)]; exact q) (.inl (PyProof.noPylong_small (by omega)))
theorem op_mod : OpR X (binaryOp .Mod) (rI (fun _ j => 0 < j) fun i j => .int (i % j)) := opI fun i j _ _ _ _ _ hc q => by
  have h1 : (0 : Int) < j := hc
  exact mod_int' (by omega) (by rw [Int.fmod_eq_emod_of_nonneg i (by omega)]; exact q)
theorem op_pow : OpR X (binaryOp .Pow) (rI CPow fun i j => .int (i ^ j.toNat)) := opI fun _ _ _ _ _ _ _ hc q => pow_int_small hc.1 hc.2.1 hc.2.2 q
theorem op_shl : OpR X (binaryOp .LShift) (rI CPow fun i j => .int (i * 2 ^ j.toNat)) := opI fun _ _ _ _ _ _ _ hc q => lshift_int_small hc.1 hc.2.1 hc.2.2 q
theorem op_shr : OpR X (binaryOp .RShift) (rI (fun _ j => 0 ≤ j) fun i j => .int (i / 2 ^ j.toNat)) := opI fun i j _ _ _ _ _ hc q =>
  rshift_int hc (by rw [Int.fdiv_eq_ediv_of_nonneg i (two_pow_nn _)]; exact q)
theorem op_and : OpR X (binaryOp .BitAnd) (rI0 fun i j => .int (Builtin.bitAnd i j)) := opI0 fun _ _ _ _ _ _ _ q => and_int q
theorem op_or : OpR X (binaryOp .BitOr) (rI0 fun i j => .int (Builtin.bitOr i j)) := opI0 fun _ _ _ _ _ _ _ q => or_int q
end

def scal : V → V → Bool
  | .non, .non => true | .non, .int _ => true | .int _, .non => true | .non, .bl _ => true | .bl _, .non => true | .non, .str _ => true | .str _, .non => true
  | .int _, .int _ => true | .bl _, .bl _ => true | .str _, .str _ => true | .byt _, .byt _ => true
  | .int _, .str _ => true | .str _, .int _ => true | .bl _, .str _ => true | .str _, .bl _ => true
  | _, _ => false
def rEq : R2 := fun x y H Q => scal x y = true ∧ Q (.bl (decide (x = y))) H
def rNe : R2 := fun x y H Q => scal x y = true ∧ Q (.bl (!decide (x = y))) H

theorem dec_int {i j : Int} : decide (V.int i = V.int j) = (i == j) := by
  rw [Bool.eq_iff_iff]
  simp
theorem dec_bl {i j : Bool} : decide (V.bl i = V.bl j) = (i == j) := by
  rw [Bool.eq_iff_iff]
  simp
theorem dec_str {i j : Str} : decide (V.str i = V.str j) = (i == j) := by
  rw [Bool.eq_iff_iff]
  simp
theorem dec_byt {i j : Array UInt8} : decide (V.byt i = V.byt j) = (i.toList == j.toList) := by
  rw [Bool.eq_iff_iff]
  cases i
  cases j
  simp

section
variable {X : Cx} {a b c : Expr} {ta tb tc : TE} {pos : Pos}
theorem fin_bl {pins : List (Addr × Obj)} {σ : St} {H : Hp} {s : Shared} {Q : VK} {k k' : Bool} (I : Inv X pins σ H s) (q : Q (.bl k) H) (e : k = k') : EP X pins σ Q (.bool k') s := by
  subst e
  exact ⟨.bl k, H, I, rfl, q⟩
theorem op_eq : OpR X (compareOp .Eq) rEq := by
  intro pins s σ H x y v u Q I rx ry h
  obtain ⟨hs, q⟩ := h
  cases x with
  | non =>
    cases rx
    cases y with
    | non => cases ry; exact PySem.EqNone.eq_none_none (fin_bl I q (by simp))
    | bl j => cases ry; exact PySem.EqNone.eq_none_bool (fin_bl I q (by simp))
    | int j => obtain ⟨t', rfl⟩ := ry; exact PySem.EqNone.eq_none_int (fin_bl I q (by simp))
    | str j => obtain ⟨t', rfl⟩ := ry; exact PySem.EqNone.eq_none_str (fin_bl I q (by simp))
    | _ => exact absurd (show false = true from hs) Bool.false_ne_true
  | bl i =>
    cases rx
    cases y with
    | non => cases ry; exact PySem.EqNone.eq_bool_none (fin_bl I q (by simp))
    | bl j => cases ry; exact eq_bool (fin_bl I q dec_bl)
    | str j => obtain ⟨t', rfl⟩ := ry; exact PySem.EqMixed.eq_bool_str (fin_bl I q (by simp))
    | _ => exact absurd (show false = true from hs) Bool.false_ne_true
  | int i =>
    obtain ⟨t, rfl⟩ := rx
    cases y with
    | non => cases ry; exact PySem.EqNone.eq_int_none (fin_bl I q (by simp))
    | int j => obtain ⟨t', rfl⟩ := ry; exact eq_int (fin_bl I q dec_int)
    | str j => obtain ⟨t', rfl⟩ := ry; exact PySem.EqMixed.eq_int_str (fin_bl I q (by simp))
    | _ => exact absurd (show false = true from hs) Bool.false_ne_true
  | str i =>
    obtain ⟨t, rfl⟩ := rx
    cases y with
    | non => cases ry; exact PySem.EqNone.eq_str_none (fin_bl I q (by simp))
    | bl j => cases ry; exact PySem.EqMixed.eq_str_bool (fin_bl I q (by simp))
    | int j => obtain ⟨t', rfl⟩ := ry; exact PySem.EqMixed.eq_str_int (fin_bl I q (by simp))
    | str j => obtain ⟨t', rfl⟩ := ry; exact eq_str (fin_bl I q dec_str)
    | _ => exact absurd (show false = true from hs) Bool.false_ne_true
  | byt i =>
    obtain ⟨t, rfl⟩ := rx
    cases y with
    | byt j => obtain ⟨t', rfl⟩ := ry; exact PySem.W.eq_bytes (fin_bl I q dec_byt)
    | _ => exact absurd (show false = true from hs) Bool.false_ne_true
  | _ => cases y <;> exact absurd (show false = true from hs) Bool.false_ne_true
theorem op_ne : OpR X (compareOp .NotEq) rNe := by
  intro pins s σ H x y v u Q I rx ry h
  obtain ⟨hs, q⟩ := h
  cases x with
  | non =>
    cases rx
    cases y with
    | non => cases ry; exact PySem.EqNone.ne_none_none (fin_bl I q (by simp))
    | bl j => cases ry; exact PySem.EqNone.ne_none_bool (fin_bl I q (by simp))
    | int j => obtain ⟨t', rfl⟩ := ry; exact PySem.EqNone.ne_none_int (fin_bl I q (by simp))
    | str j => obtain ⟨t', rfl⟩ := ry; exact PySem.EqNone.ne_none_str (fin_bl I q (by simp))
    | _ => exact absurd (show false = true from hs) Bool.false_ne_true
  | bl i =>
    cases rx
    cases y with
    | non => cases ry; exact PySem.EqNone.ne_bool_none (fin_bl I q (by simp))
    | bl j => cases ry; exact ne_bool (fin_bl I q (congrArg not dec_bl))
    | str j => obtain ⟨t', rfl⟩ := ry; exact PySem.EqMixed.ne_bool_str (fin_bl I q (by simp))
    | _ => exact absurd (show false = true from hs) Bool.false_ne_true
  | int i =>
    obtain ⟨t, rfl⟩ := rx
    cases y with
    | non => cases ry; exact PySem.EqNone.ne_int_none (fin_bl I q (by simp))
    | int j => obtain ⟨t', rfl⟩ := ry; exact ne_int (fin_bl I q (congrArg not dec_int))
    | str j => obtain ⟨t', rfl⟩ := ry; exact PySem.EqMixed.ne_int_str (fin_bl I q (by simp))
    | _ => exact absurd (show false = true from hs) Bool.false_ne_true
  | str i =>
    obtain ⟨t, rfl⟩ := rx
    cases y with
    | non => cases ry; exact PySem.EqNone.ne_str_none (fin_bl I q (by simp))
    | bl j => cases ry; exact PySem.EqMixed.ne_str_bool (fin_bl I q (by simp))
    | int j => obtain ⟨t', rfl⟩ := ry; exact PySem.EqMixed.ne_str_int (fin_bl I q (by simp))
    | str j => obtain ⟨t', rfl⟩ := ry; exact ne_str (fin_bl I q (congrArg not dec_str))
    | _ => exact absurd (show false = true from hs) Bool.false_ne_true
  | byt i =>
    obtain ⟨t, rfl⟩ := rx
    cases y with
    | byt j => obtain ⟨t', rfl⟩ := ry; exact PySem.W.ne_bytes (fin_bl I q (congrArg not dec_byt))
    | _ => exact absurd (show false = true from hs) Bool.false_ne_true
  | _ => cases y <;> exact absurd (show false = true from hs) Bool.false_ne_true

theorem op_lt : OpR X (compareOp .Lt) (rI0 fun i j => .bl (decide (i < j))) := opB0 fun _ _ _ _ _ _ _ q => lt_int q
theorem op_gt : OpR X (compareOp .Gt) (rI0 fun i j => .bl (decide (j < i))) := opB0 fun _ _ _ _ _ _ _ q => gt_int q
theorem nomark (b : Expr) {op : CmpOp} (h : op ≠ .In := by decide) (h2 : op ≠ .NotIn := by decide) : behindInMarks op b = false := by
  have e1 : (op == CmpOp.In) = false := by cases op <;> first | rfl | exact absurd rfl h
  have e2 : (op == CmpOp.NotIn) = false := by cases op <;> first | rfl | exact absurd rfl h2
  cases b <;> simp [behindInMarks, e1, e2]
theorem pe_cmpR {op : CmpOp} {r : R2} (ho : OpR X (compareOp op) r) (ha : PE X a ta) (hb : PE X b tb) (hm : behindInMarks op b = false) : PE X (.Compare a [op] [b] pos) (tOp r ta tb) := by
  intro pins s σ H Q I h
  exact wpAny_Compare1 (binT ha hb I h fun v u s2 x y H2 I2 rx ry q => ho pins s2 σ H2 x y v u Q I2 rx ry q) hm
def tTest (t : TE) : TT := fun σ H Q => t σ H fun x H' => ∃ k, x = .bl k ∧ Q k H'
theorem pt_cmpR {op : CmpOp} {r : R2} (ho : OpR X (compareOp op) r) (ha : PE X a ta) (hb : PE X b tb) (hm : behindInMarks op b = false) : PT X (.Compare a [op] [b] pos) (tTest (tOp r ta tb)) := by
  intro pins s σ H Q I h
  refine wpAny_isTrue_Compare1 (thn (ha pins s σ H _ I h) fun v s1 ⟨x, H1, I1, r1, q1⟩ => thn (hb pins s1 σ H1 _ I1 q1) fun u s2 ⟨y, H2, I2, r2, q2⟩ =>
    thn (ho pins s2 σ H2 x y v u _ I2 r1 r2 q2) fun c s3 ⟨z, H3, I3, r3, k, e, q3⟩ => ?_) hm
  subst e
  cases r3
  exact wpAny_truthy_bool ⟨H3, I3, q3⟩
theorem line63 : (sizeLine : Nat) < 2 ^ 63 := by rw [sizeLine_eq]; decide
theorem op_add_str : OpR X (binaryOp .Add) (fun x y H Q => ∃ i j, x = .str i ∧ y = .str j ∧ i.length + j.length ≤ sizeLine ∧ Q (.str (i ++ j)) H) := by
  intro pins s σ H x y v u Q I rx ry h
  obtain ⟨i, j, rfl, rfl, hz, q⟩ := h
  obtain ⟨t, rfl⟩ := rx
  obtain ⟨t', rfl⟩ := ry
  exact add_str (fun t' tk => ⟨.str (i ++ j), H, I.tok _, ⟨_, rfl⟩, q⟩) hz
theorem vals1 {x : V} {us : List Value} (r : Vals [x] us) : ∃ u, us = [u] ∧ RelV x u := by
  cases r with
  | cons r1 r2 => cases r2; exact ⟨_, rfl, r1⟩
theorem vals2 {x y : V} {us : List Value} (r : Vals [x, y] us) : ∃ u w', us = [u, w'] ∧ RelV x u ∧ RelV y w' := by
  cases r with
  | cons r1 r2 =>
    cases r2 with
    | cons r3 r4 => cases r4; exact ⟨_, _, rfl, r1, r3⟩
theorem call_max2 (hc : X.calm = true) : CallR X (.builtin "max") (fun xs H Q => ∃ i j, xs = [.int i, .int j] ∧ Q (.int (if j > i then j else i)) H) := by
  intro pins s σ H xs us Q I r h
  obtain ⟨i, j, rfl, q⟩ := h
  obtain ⟨u, w', rfl, ⟨t, rfl⟩, ⟨t', rfl⟩⟩ := vals2 r
  refine max_two_ints (I.ok.hd hc) fun h' tk k => ⟨_, H, I.kept k, ?_, q⟩
  by_cases hj : j > i
  · rw [if_pos hj, if_pos hj]; exact ⟨_, rfl⟩
  · rw [if_neg hj, if_neg hj]; exact ⟨_, rfl⟩
theorem call_min2 (hc : X.calm = true) : CallR X (.builtin "min") (fun xs H Q => ∃ i j, xs = [.int i, .int j] ∧ Q (.int (if j < i then j else i)) H) := by
  intro pins s σ H xs us Q I r h
  obtain ⟨i, j, rfl, q⟩ := h
  obtain ⟨u, w', rfl, ⟨t, rfl⟩, ⟨t', rfl⟩⟩ := vals2 r
  refine min_two_ints (I.ok.hd hc) fun h' tk k => ⟨_, H, I.kept k, ?_, q⟩
  by_cases hj : j < i
  · rw [if_pos hj, if_pos hj]; exact ⟨_, rfl⟩
  · rw [if_neg hj, if_neg hj]; exact ⟨_, rfl⟩
end
end L2

namespace L2
open PySem PySem.Spec PyProof.Rows

structure ObjM (h : Heap) (x dx C : Addr) (mA : Str → Option Value) : Prop where
  obj : h.get? x = some (PySem.W.instObj C dx)
  ns : h.Ns1 dx mA
  ne : dx ≠ x

theorem lookIn_ns {h : Heap} {dx : Addr} {mA : Str → Option Value} (n : h.Ns1 dx mA) : ∃ od, h.get? dx = some od ∧ ∀ name, PySem.W.lookIn name od = some (mA name) := by
  obtain ⟨o, es, ep, ho, hd, hk, _, hm⟩ := n
  refine ⟨o, ho, fun name => ?_⟩
  have e := hm name
  unfold nsFind findBy at e
  rw [← Array.find?_toList] at e
  unfold PySem.W.lookIn
  rw [hd]
  dsimp only
  split
  · rename_i y q
    rw [q] at e
    exact congrArg some e
  · rename_i q
    rw [q] at e
    have a : es.toList.any (·.refKey) = false := by
      rw [List.any_eq_false]
      intro y hy
      obtain ⟨z, t, hkey⟩ := hk y (Array.mem_toList_iff.mp hy)
      simp [DictEntry.refKey, hkey]
    have a' : ¬ es.toList.any (·.refKey) = true := by rw [a]; exact Bool.false_ne_true
    rw [if_neg a']
    exact congrArg some e

theorem ObjM.look {h : Heap} {x dx C : Addr} {mA : Str → Option Value} (I : ObjM h x dx C mA) : ∃ od, PySem.W.InstAt h x (PySem.W.instObj C dx) C (some od) ∧ ∀ name, PySem.W.lookIn name od = some (mA name) :=
  let ⟨od, ho, hl⟩ := lookIn_ns I.ns
  ⟨od, ⟨I.obj, rfl, rfl, ho⟩, hl⟩

section
variable {prog : Program} {w : World} {A : Around} {E : Value → Shared → Prop} {s : Shared} {K : PySem.W.Frag} {x dx C f : Addr} {mA : Str → Option Value} {name : Str} {v : Value}

end

def putF (f : Str) (v : V) : List (Str × V) → List (Str × V)
  | [] => [(f, v)]
  | (g, x) :: r => if g = f then (g, v) :: r else (g, x) :: putF f v r
theorem lookup_putF (f g : Str) (v : V) : ∀ fs : List (Str × V), (putF f v fs).lookup g = if g = f then some v else fs.lookup g
  | [] => by
    show List.lookup g [(f, v)] = _
    by_cases h : g = f
    · have hb : (g == f) = true := beq_iff_eq.mpr h
      simp only [List.lookup, hb, if_pos h]
    · have hb : (g == f) = false := beq_eq_false_iff_ne.mpr h
      simp only [List.lookup, hb, if_neg h]
  | (k, x) :: r => by
    have ih := lookup_putF f g v r
    rw [show putF f v ((k, x) :: r) = (if k = f then (k, v) :: r else (k, x) :: putF f v r) from rfl]
    by_cases hk : k = f
    · rw [if_pos hk]
      by_cases h : g = k
      · have hb : (g == k) = true := beq_iff_eq.mpr h
        simp only [List.lookup, hb, if_pos (h.trans hk)]
      · have hb : (g == k) = false := beq_eq_false_iff_ne.mpr h
        simp only [List.lookup, hb, if_neg (fun e : g = f => h (e.trans hk.symm))]
    · rw [if_neg hk]
      by_cases h : g = k
      · have hb : (g == k) = true := beq_iff_eq.mpr h
        simp only [List.lookup, hb, if_neg (fun e : g = f => hk (h.symm.trans e))]
      · have hb : (g == k) = false := beq_eq_false_iff_ne.mpr h
        simp only [List.lookup, hb]
        exact ih
theorem keys_putF (f : Str) (v : V) : ∀ fs : List (Str × V), f ∈ (putF f v fs).map (·.1) ∧ ∀ g, g ∈ fs.map (·.1) → g ∈ (putF f v fs).map (·.1)
  | [] => ⟨by simp [putF], fun g h => by simp at h⟩
  | (k, x) :: r => by
    obtain ⟨i1, i2⟩ := keys_putF f v r
    rw [show putF f v ((k, x) :: r) = (if k = f then (k, v) :: r else (k, x) :: putF f v r) from rfl]
    by_cases hk : k = f
    · rw [if_pos hk]
      subst hk
      exact ⟨by simp, fun g h => by simpa using h⟩
    · rw [if_neg hk]
      refine ⟨?_, fun g h => ?_⟩
      · rw [List.map_cons]
        exact List.mem_cons_of_mem _ i1
      · rw [List.map_cons] at h ⊢
        rcases List.mem_cons.mp h with e | e
        · exact List.mem_cons.mpr (.inl e)
        · exact List.mem_cons_of_mem _ (i2 g e)
theorem RelO.some_of {v : V} {o : Option Value} (r : RelO (some v) o) : ∃ u, o = some u ∧ RelV v u := by
  cases o with
  | none => exact (show False from r).elim
  | some u => exact ⟨u, rfl, r⟩
theorem handed_of {v : V} {u : Value} (r : RelV v u) : PySem.W.handedIn u = true := by
  cases v with
  | non => cases (show u = Value.none from r); rfl
  | bl b => cases (show u = Value.bool b from r); rfl
  | int i => obtain ⟨t, e⟩ := (show ∃ t, u = Value.int i t from r); cases e; rfl
  | str x => obtain ⟨t, e⟩ := (show ∃ t, u = Value.str x t from r); cases e; rfl
  | byt b => obtain ⟨t, e⟩ := (show ∃ t, u = Value.bytes b t from r); cases e; rfl
  | flt b => obtain ⟨t, e⟩ := (show ∃ t, u = Value.float b t from r); cases e; rfl
  | ref a => cases (show u = Value.ref a from r); rfl
  | ty n => cases (show u = Value.type n from r); rfl

section
variable {P : Program} {w : World} {H H' : Hp} {h h' : Heap} {a C dx : Addr} {fs fs' : List (Str × V)}
theorem ins_get (hok : HOk P w H h) (e : H a = some (.ins C dx fs)) : ∃ mA, ObjM h a dx C mA ∧ (∀ f, RelO (fs.lookup f) (mA f)) ∧ PySem.Within mA (fs.map (·.1)) ∧ fs.length ≤ 1000 ∧ H dx = some (.own a) := by
  obtain ⟨d, z, ne, ob, mA, n, r, q⟩ := (show ObjOk P w H h a (.ins C dx fs) from hok a _ e)
  exact ⟨mA, ⟨ob, n, ne⟩, r, q, z, d⟩
end

structure Cls (K : PySem.W.Frag) (C : Addr) : Prop where
  pg : PySem.W.plainGet K C Str.empty = true
  hd : PySem.W.hasDictIn K C = true
  po : PySem.W.plainOver K C = true
  sa : PySem.W.findIn K (.ref C) "__setattr__" = some (some (.builtin "object.__setattr__"))
theorem Cls.get {K : PySem.W.Frag} {C : Addr} (c : Cls K C) (f : Str) : PySem.W.plainGet K C f = true := c.pg
def NoAttr (K : PySem.W.Frag) (C : Addr) (f : Str) : Prop := PySem.W.findIn K (.ref C) f = some none
theorem NoAttr.taker {K : PySem.W.Frag} {C : Addr} {f : Str} (n : NoAttr K C f) : PySem.W.takerIn K C f = some none := by
  unfold PySem.W.takerIn
  rw [show PySem.W.findIn K (.ref C) f = some none from n]
  rfl
section
variable {X : Cx} {pins : List (Addr × Obj)} {σ : St} {H : Hp} {s : Shared} {a C dx : Addr} {fs : List (Str × V)} {f : Str} {v : V} {A : Around} {E : Value → Shared → Prop}

theorem attr_of {prog : Program} {w : World} {env : Env} {e : Expr} {f : Str} {pos : Pos} {s : Shared} {Q : Value → Shared → Prop} (hb : attributeBase e f env (eval e env) = eval e env)
    (h : wpAny (model prog w) A (eval e env) (fun o s₁ => wpAny (model prog w) A (getAttr o f true) Q E s₁) E s) : wpAny (model prog w) A (eval (.Attribute e f pos) env) Q E s :=
  Attribute_any_ h (by rw [arm_eval_Attribute, hb])
end

section
variable {X : Cx} {o e value : Expr} {f : Str} {pos pos' tpos : Pos} {ta tv : TE}
end

section
variable {X : Cx} {pins : List (Addr × Obj)} {σ : St} {H : Hp} {s : Shared} {A : Around} {E : Value → Shared → Prop} {Q : Value → Shared → Prop} {c : Value} {b : Bool}
inductive TyOf (K : PySem.W.Frag) (H : Hp) : V → Value → Prop where
  | non : TyOf K H .non (.type "NoneType")
  | bl (x : Bool) : TyOf K H (.bl x) (.type "bool")
  | int (i : Int) : TyOf K H (.int i) (.type "int")
  | str (x : Str) : TyOf K H (.str x) (.type "str")
  | flt (x : UInt64) : TyOf K H (.flt x) (.type "float")
  | lst {a : Addr} {xs : List V} (e : H a = some (.lst xs)) : TyOf K H (.ref a) (.type "list")
  | frz {a : Addr} {o : Obj} {xs : List V} (e : H a = some (.frz o (.lst xs))) : TyOf K H (.ref a) (.type "list")
  | tup {a : Addr} {xs : List V} (e : H a = some (.tup xs)) : TyOf K H (.ref a) (.type "tuple")
  | dK {a : Addr} {kvs : List (Key × V)} (e : H a = some (.dK kvs)) : TyOf K H (.ref a) (.type "dict")
  | dT {a : Addr} {kvs : List (List Key × V)} (e : H a = some (.dT kvs)) : TyOf K H (.ref a) (.type "dict")
  | ins {a C dx : Addr} {fs : List (Str × V)} (e : H a = some (.ins C dx fs)) (cl : Cls K C) (ha : PySem.W.findIn K (.ref C) "__class__" = some (some (.builtin "object.__class__")))
      (hn : PySem.W.specialIn K (.builtin "object.__class__") "__get__" = some (some (.builtin "getset_descriptor.__get__"))) (htk : PySem.W.takesIn K (.builtin "object.__class__") = some true)
      (hm : PySem.W.mroIn K C (.type "object") = some true) : TyOf K H (.ref a) (.ref C)
theorem isinst_ok {x : V} {u t : Value} (I : Inv X pins σ H s) (rx : RelV x u) (ty : TyOf X.K H x t) (e : PySem.W.kitOne X.K t c = some b) (h : ∀ tk, Q (.bool b) { s with toks := tk }) :
    wpAny (model X.prog X.w) A (call (.builtin "isinstance") [u, c]) Q E s := by
  cases ty with
  | non => cases (show u = Value.none from rx); exact PySem.W.kia_one PySem.W.kitx_none I.kIn True.intro e (fun z => nomatch z) h
  | bl y => cases (show u = Value.bool y from rx); exact PySem.W.kia_one PySem.W.kitx_bool I.kIn True.intro e (fun z => nomatch z) h
  | int i => obtain ⟨t, q⟩ := (show ∃ t, u = Value.int i t from rx); cases q; exact PySem.W.kia_one PySem.W.kitx_int I.kIn True.intro e (fun z => nomatch z) h
  | str y => obtain ⟨t, q⟩ := (show ∃ t, u = Value.str y t from rx); cases q; exact PySem.W.kia_one PySem.W.kitx_str I.kIn True.intro e (fun z => nomatch z) h
  | flt y => obtain ⟨t, q⟩ := (show ∃ t, u = Value.float y t from rx); cases q; exact PySem.W.kia_one PySem.W.kitx_float I.kIn True.intro e (fun z => nomatch z) h
  | @lst a xs ea =>
    cases (show u = Value.ref a from rx)
    obtain ⟨_, _, n, _, h1⟩ := (show ObjOk X.prog X.w H s.heap a (.lst xs) from I.hok a _ ea)
    exact PySem.W.kia_one PySem.W.kitx_list I.kIn ⟨_, h1, rfl⟩ e (fun z => nomatch z) h
  | @frz a ob xs ea =>
    cases (show u = Value.ref a from rx)
    obtain ⟨_, _, _, n, _, h1⟩ := (show ObjOk X.prog X.w H s.heap a (.frz ob (.lst xs)) from I.hok a _ ea)
    exact PySem.W.kia_one PySem.W.kitx_list I.kIn ⟨_, h1, rfl⟩ e (fun z => nomatch z) h
  | @tup a xs ea =>
    cases (show u = Value.ref a from rx)
    obtain ⟨_, _, _, p⟩ := (show ObjOk X.prog X.w H s.heap a (.tup xs) from I.hok a _ ea)
    obtain ⟨o, h1, h2, _⟩ := p
    exact PySem.W.kia_one PySem.W.kitx_tuple I.kIn ⟨o, h1, h2⟩ e (fun z => nomatch z) h
  | @dK a kvs ea =>
    cases (show u = Value.ref a from rx)
    obtain ⟨_, _, vs, _, p⟩ := (show ObjOk X.prog X.w H s.heap a (.dK kvs) from I.hok a _ ea)
    obtain ⟨o, es, ep, h1, h2, _⟩ := p
    exact PySem.W.kia_one PySem.W.kitx_dict I.kIn ⟨o, h1, h2.1⟩ e (fun z => nomatch z) h
  | @dT a kvs ea =>
    cases (show u = Value.ref a from rx)
    obtain ⟨_, _, xs, _, o, es, ep, h1, h2, _⟩ := (show ObjOk X.prog X.w H s.heap a (.dT kvs) from I.hok a _ ea)
    exact PySem.W.kia_one PySem.W.kitx_dict I.kIn ⟨o, h1, h2.1⟩ e (fun z => nomatch z) h
  | @ins a C dx fs ea cl ha hn htk hm =>
    cases (show u = Value.ref a from rx)
    obtain ⟨mA, O, _⟩ := ins_get I.hok ea
    obtain ⟨od, J, _⟩ := O.look
    exact PySem.W.kia_one (PySem.W.kitx_own (cl.get _) cl.hd ha hn htk hm) I.kIn J e (fun z => nomatch z) h
end
end L2

namespace L2
open PySem PySem.Spec PyProof.Rows

structure Room (k : Nat) (A : Around) : Prop where
  hd : A.handled = none
  dp : A.depth + 3 * k + 5 < recursionLimit
  un : A.units + 16 * k + 200 < cLine
theorem Room.mono {j k : Nat} {A : Around} (r : Room k A) (h : j ≤ k) : Room j A := ⟨r.hd, by have := r.dp; omega, by have := r.un; omega⟩
theorem Room.deeper {k : Nat} {A : Around} (r : Room (k + 1) A) (env : Env) : Room k (A.deeper env) :=
  ⟨r.hd, by have := r.dp; show A.depth + 1 + 3 * k + 5 < _; omega, by have := r.un; show A.units + 3 + 16 * k + 200 < _; omega⟩
theorem make_depth {A : Around} {C : Addr} {us : List Value} {kw : List (Str × Value)} : (A.under (.builtin "type.__call__" ⟨.ref C :: us, kw⟩)).depth = A.depth + 1 := by
  first | rfl | simp [Around.under, Code.weight, Code.isCreation, Code.isGuard, Code.isCaller, Code.frames, Code.isFrame, guardIds]
theorem make_units {A : Around} {C : Addr} {us : List Value} {kw : List (Str × Value)} : (A.under (.builtin "type.__call__" ⟨.ref C :: us, kw⟩)).units = A.units + 1 := by
  first | rfl | simp [Around.under, Code.cUnits, Code.frames, Code.isFrame]
theorem Room.make {k : Nat} {A : Around} (r : Room (k + 1) A) (C : Addr) (us : List Value) (kw : List (Str × Value)) : Room k (A.under (.builtin "type.__call__" ⟨.ref C :: us, kw⟩)) :=
  ⟨r.hd, by have := r.dp; rw [make_depth]; omega, by have := r.un; rw [make_units]; omega⟩
theorem Room.depth {k : Nat} {A : Around} (r : Room k A) : A.depth < recursionLimit := by have := r.dp; omega
theorem Room.units {k : Nat} {A : Around} (r : Room k A) : A.units + 64 < cLine := by have := r.un; omega
def tNil : TA := fun _ H Q => Q [] H
def tCons (ta : TE) (tr : TA) : TA := fun σ H Q => ta σ H fun x H1 => tr σ H1 fun xs H2 => Q (x :: xs) H2
section
variable {X : Cx} {e : Expr} {es : List Expr} {te : TE} {t : TA} {pos : Pos}
theorem pa_nil : PA X [] tNil := fun _ _ _ _ H Q I h => Calls.spliced_nil ⟨[], H, I, .nil, h⟩
theorem pa_cons (ha : PE X e te) (hr : PA X es t) (hs : starEach (e :: es) X.env = (false, eval e X.env) :: starEach es X.env := by rfl) : PA X (e :: es) (tCons te t) := by
  intro pos pins s σ H Q I h
  rw [hs]
  show wpAny _ _ (spliced ((false, eval e X.env) :: backTo pos (starEach es X.env))) _ _ s
  refine Calls.spliced_cons (thn (ha pins s σ H _ I h) fun u s1 ⟨x, H1, I1, r1, q1⟩ => ?_)
  exact thn (hr pos pins s1 σ H1 _ I1 q1) fun us s2 ⟨xs, H2, I2, r2, q2⟩ => ⟨x :: xs, H2, I2, .cons r1 r2, q2⟩

def tTup (t : TA) : TE := fun σ H Q => t σ H fun xs H1 => xs.length ≤ sizeLine ∧ ∀ p, H1 p = none → Q (.ref p) (upd H1 p (.tup xs))
def tLst (t : TA) : TE := fun σ H Q => t σ H fun xs H1 => xs.length ≤ sizeLine ∧ ∀ p, H1 p = none → Q (.ref p) (upd H1 p (.lst xs))
theorem pe_tup {x1} (h : PA X es t) : PE X (.Tuple es x1 pos) (tTup t) := by
  intro pins s σ H Q I hq
  refine wpAny_Tuple_spliced (thn (h pos pins s σ H _ I hq) fun us s1 ⟨xs, H1, I1, r, z, q⟩ => ⟨by rw [← r.length]; exact z, ?_⟩)
  have hf : H1 s1.heap.objs.size = none := I1.hok.fresh (Nat.le_refl _)
  refine ⟨.ref s1.heap.objs.size, upd H1 s1.heap.objs.size (.tup xs), I1.laid (t' := s1.toks) (fun b u e => Heap.get?_push_of_some _ e) (Nat.le_refl _) ?_, rfl, q _ hf⟩
  exact ⟨z, us, r, ⟨_, Heap.get?_push_size _ rfl, rfl, _, rfl⟩⟩
theorem pe_lst (h : PA X es t) : PE X (.List es pos) (tLst t) := by
  intro pins s σ H Q I hq
  refine wpAny_List_spliced (thn (h pos pins s σ H _ I hq) fun us s1 ⟨xs, H1, I1, r, z, q⟩ => ⟨by rw [← r.length]; exact z, ?_⟩)
  have hf : H1 s1.heap.objs.size = none := I1.hok.fresh (Nat.le_refl _)
  refine ⟨.ref s1.heap.objs.size, upd H1 s1.heap.objs.size (.lst xs), I1.laid (t' := s1.toks) (fun b u e => Heap.get?_push_of_some _ e) (Nat.le_refl _) ?_, rfl, q _ hf⟩
  exact ⟨z, us, 0, r, Heap.get?_push_size _ rfl⟩
end

abbrev Sp := List V → Hp → VK → XK → Prop
abbrev CXT := List Env → Hp → Shared → XK → Value → Shared → Prop

structure Env0 (P : Program) (w : World) (K : PySem.W.Frag) (mg : Str → Option Value) (base : Heap) (A : Around) (outer : List Env) (s : Shared) (H : Hp) : Prop where
  frames : A.frames = some outer
  mod : Mod K mg base
  bs : ∀ b o, base.get? b = some o → s.heap.get? b = some o ∧ H b = none
  bsz : base.objs.size ≤ s.heap.objs.size
  funs : s.heap.FunFrames base outer
  frf : ∀ b ∈ frs outer, H b = none
  hok : HOk P w H s.heap
  bare : AllBare s.gens
def CE (outer : List Env) (P : Program) (w : World) (H : Hp) (s : Shared) (Q : VK) (u : Value) (s' : Shared) : Prop :=
  ∃ v H', s'.os = s.os ∧ AllBare s'.gens ∧ Un (frs outer) [] H H' s.heap s'.heap ∧ HOk P w H' s'.heap ∧ RelV v u ∧ Q v H'
def CR (CX : CXT) (outer : List Env) (P : Program) (w : World) (H : Hp) (s : Shared) (Q : VK) (E : XK) (r : Result) (s' : Shared) : Prop :=
  match r with
  | .ok (.ret u) => CE outer P w H s Q u s'
  | .ok _ => False
  | .error e => CX outer H s E e s'
structure FnOk (P : Program) (w : World) (K : PySem.W.Frag) (mg : Str → Option Value) (base : Heap) (CX : CXT) (k : Nat) (f : Addr) (fd : FuncData) (ps : List Str) (sp : Sp) : Prop where
  len : ∀ vs H Q E, sp vs H Q E → vs.length = ps.length
  run : ∀ (A : Around) (outer : List Env) (s : Shared) (H : Hp) (args : Args) (us : List Value) (vs : List V) (Q : VK) (E : XK), Room k A → Env0 P w K mg base A outer s H → BindsTo s fd args (ps.zip us) → Vals vs us → sp vs H Q E →
    codeAny (model P w) A (.call (.ref f) args) (CR CX outer P w H s Q E) s
theorem Env0.make {P : Program} {w : World} {K : PySem.W.Frag} {mg : Str → Option Value} {base : Heap} {A : Around} {outer : List Env} {s : Shared} {H : Hp} (e : Env0 P w K mg base A outer s H) (C : Addr) (us : List Value) (kw : List (Str × Value)) :
    Env0 P w K mg base (A.under (.builtin "type.__call__" ⟨.ref C :: us, kw⟩)) outer s H := ⟨by first | exact e.frames | (simpa [Around.under, Code.envs, Code.isFrame, pushEnvs] using e.frames), e.mod, e.bs, e.bsz, e.funs, e.frf, e.hok, e.bare⟩
section
variable {X : Cx} {pins : List (Addr × Obj)} {σ : St} {H : Hp} {s s' : Shared}
theorem Inv.env0 (I : Inv X pins σ H s) : Env0 X.prog X.w X.K X.mg X.base X.A X.stack s H :=
  ⟨I.ok.frames, I.ok.mod, I.bs, Nat.le_trans I.ok.bsz I.sz, I.stack, I.stkFree, I.hok, I.bare⟩
theorem Inv.after {Q : VK} {u : Value} (I : Inv X pins σ H s) (h : CE X.stack X.prog X.w H s Q u s') : EP X pins σ Q u s' := by
  obtain ⟨v, H', os, bare, un, hok, r, q⟩ := h
  obtain ⟨hh, g, d, t, os'⟩ := s'
  obtain rfl : os' = s.os := os
  exact ⟨v, H', I.call (h' := hh) (g' := g) (d' := d) (t' := t) (ch := []) un hok bare (fun b z => absurd z (by simp)), r, q⟩
end

def tCall (sp : Sp) (dvs : List V) (E : XK) (t : TA) : TE := fun σ H Q => t σ H fun vs H1 => sp (vs ++ dvs) H1 Q E
def Binds (K : PySem.W.Frag) (fd : FuncData) (ps : List Str) (ds : List Value) : Prop :=
  ∀ (s : Shared) (us : List Value), K.In s.heap → (us ++ ds).length = ps.length → BindsTo s fd ⟨us, []⟩ (ps.zip (us ++ ds))
theorem Binds.all {K : PySem.W.Frag} {fd : FuncData} {ps : List Str} (h : ∀ us : List Value, us.length = ps.length → bindArgs fd ⟨us, []⟩ = pure (ps.zip us)) : Binds K fd ps [] := fun s us _ hl => by
  rw [List.append_nil] at hl ⊢
  exact .of_eq (h us hl)

def Passes (CX : CXT) (X : Cx) (E : XK) : Prop := ∀ (pins : List (Addr × Obj)) (σ : St) (H : Hp) (s : Shared) (e : Value) (s' : Shared), Inv X pins σ H s → CX X.stack H s E e s' → X.xe e s'

section
variable {X : Cx} {CX : CXT} {k : Nat} {f C : Addr} {fd : FuncData} {ps : List Str} {sp : Sp} {dvs : List V} {ds : List Value} {E : XK} {x m : Str} {p pos apos : Pos} {e o : Expr} {es : List Expr} {ta : TE} {t : TA}

theorem run_fn {pins : List (Addr × Obj)} {σ : St} {H : Hp} {s : Shared} {Q : VK} {us : List Value} {vs : List V} (F : FnOk X.prog X.w X.K X.mg X.base CX k f fd ps sp) (hr : Room k X.A) (hb : Binds X.K fd ps ds) (hd : Vals dvs ds) (hx : Passes CX X E)
    (I : Inv X pins σ H s) (r : Vals vs us) (h : sp (vs ++ dvs) H Q E) : wpAny (model X.prog X.w) X.A (call (.ref f) us) (EP X pins σ Q) X.xe s := by
  have r2 : Vals (vs ++ dvs) (us ++ ds) := r.append hd
  have hl : (us ++ ds).length = ps.length := by rw [← r2.length]; exact F.len _ _ _ _ h
  refine wpAny_call (codeAny_mono (F.run X.A X.stack s H ⟨us, []⟩ (us ++ ds) (vs ++ dvs) Q E hr I.env0 (hb s us I.kIn hl) r2 h) fun r s' hq => ?_)
  cases r with
  | error e => exact hx pins σ H s e s' I hq
  | ok fl =>
    cases fl with
    | ret u => exact I.after hq
    | next => exact False.elim hq
    | brk => exact False.elim hq
    | cont => exact False.elim hq

theorem pe_call (F : FnOk X.prog X.w X.K X.mg X.base CX k f fd ps sp) (hr : Room k X.A) (hg : Gl X x) (hm : X.mg x = some (.ref f)) (hk : PySem.W.keepIn X.K (.ref f) = true) (hb : Binds X.K fd ps ds) (hd : Vals dvs ds) (hx : Passes CX X E)
    (ha : PA X (e :: es) t) (hdb : (x == ("__debug__" : Str)) = false := by decide) (he : starEach (e :: es) X.env = (false, eval e X.env) :: starEach es X.env := by rfl) (hpl : (backTo pos (starEach es X.env)).any (·.1) = false := by rfl) :
    PE X (.Call (.Name x p) (e :: es) [] pos) (tCall sp dvs E t) := by
  intro pins s σ H Q I h
  refine wpAny_Call_Name_kw (ld_glob I hg hm ?_ hdb)
  refine PySem.W.callWith_K (h₀ := X.base) I.ok.mod.kin hk (thn (ha pos pins s σ H _ I h) fun us s1 ⟨vs, H1, I1, r, q⟩ => ⟨I1.kIn, ?_⟩) he hpl
  exact run_fn F hr hb hd hx I1 r q
end

section
variable {X : Cx} {CX : CXT} {k : Nat} {f C : Addr} {fd : FuncData} {ps ks : List Str} {sp : Sp} {E : XK} {x m : Str} {p pos apos kpos : Pos} {e o : Expr} {es : List Expr} {kws : List Keyword} {te ta : TE} {t tk : TA} {nm : Option Str}
variable {g : List Value → List Value → List Value} {gV : List V → List V → List V}
end

structure FnScope (N P : List Str) (sc : Scope) : Prop where
  kind : sc.kind = .function
  co : sc.isCoroutine = false
  gen : sc.isGenerator = false
  nd : N.Nodup
  pre : N.take P.length = P
  par : ∀ x ∈ P, sc.names.lookup x = some .local ∨ sc.names.lookup x = some .cell
  nofree : ∀ y ∈ sc.names, y.2 ≠ .free

theorem bindL_out {kindOf : Str → Option NameKind} {x : Str} : ∀ {binds : List (Str × Value)} {m : Str → Option Value}, (∀ v, (x, v) ∉ binds) → bindL kindOf binds m x = m x
  | [], _, _ => rfl
  | (n, v) :: r, m, h => by
    unfold bindL
    rw [bindL_out fun w hw => h w (List.mem_cons_of_mem _ hw)]
    split
    · have : x ≠ n := by rintro rfl; exact h v List.mem_cons_self
      simp [this]
    · rfl
theorem bindC_out {kindOf : Str → Option NameKind} {x : Str} : ∀ {binds : List (Str × Value)} {m : Str → Option Value}, (∀ v, (x, v) ∉ binds) → bindC kindOf binds m x = m x
  | [], _, _ => rfl
  | (n, v) :: r, m, h => by
    unfold bindC
    rw [bindC_out fun w hw => h w (List.mem_cons_of_mem _ hw)]
    split
    · rfl
    · have : x ≠ n := by rintro rfl; exact h v List.mem_cons_self
      simp [this]
theorem bindL_get {kindOf : Str → Option NameKind} {x : Str} {v : Value} : ∀ {P : List Str} {vs : List Value} {i : Nat} {m : Str → Option Value}, P.Nodup → P[i]? = some x → vs[i]? = some v → kindOf x = some .local →
    bindL kindOf (P.zip vs) m x = some v
  | [], _, _, _, _, h, _, _ => by simp at h
  | _ :: _, [], _, _, _, _, h, _ => by simp at h
  | p :: P, w :: vs, 0, m, nd, h1, h2, hk => by
    simp at h1 h2; subst h1; subst h2
    show bindL kindOf ((p, w) :: P.zip vs) m p = _
    unfold bindL
    rw [bindL_out fun v hv => (List.nodup_cons.mp nd).1 (List.of_mem_zip hv).1, if_pos hk]
    simp
  | p :: P, w :: vs, i + 1, m, nd, h1, h2, hk => by
    show bindL kindOf ((p, w) :: P.zip vs) m x = _
    unfold bindL
    exact bindL_get (i := i) (List.nodup_cons.mp nd).2 (by simpa using h1) (by simpa using h2) hk
theorem bindC_get {kindOf : Str → Option NameKind} {x : Str} {v : Value} : ∀ {P : List Str} {vs : List Value} {i : Nat} {m : Str → Option Value}, P.Nodup → P[i]? = some x → vs[i]? = some v → kindOf x ≠ some .local →
    bindC kindOf (P.zip vs) m x = some v
  | [], _, _, _, _, h, _, _ => by simp at h
  | _ :: _, [], _, _, _, _, h, _ => by simp at h
  | p :: P, w :: vs, 0, m, nd, h1, h2, hk => by
    simp at h1 h2; subst h1; subst h2
    show bindC kindOf ((p, w) :: P.zip vs) m p = _
    unfold bindC
    rw [bindC_out fun v hv => (List.nodup_cons.mp nd).1 (List.of_mem_zip hv).1, if_neg hk]
    simp
  | p :: P, w :: vs, i + 1, m, nd, h1, h2, hk => by
    show bindC kindOf ((p, w) :: P.zip vs) m x = _
    unfold bindC
    exact bindC_get (i := i) (List.nodup_cons.mp nd).2 (by simpa using h1) (by simpa using h2) hk

def start (N : List Str) (vs : List V) : St := vs.map some ++ List.replicate (N.length - vs.length) none

def cxOf (CX : CXT) (P : Program) (w : World) (K : PySem.W.Frag) (mg : Str → Option Value) (base : Heap) (N : List Str) (qual : Str) (scope : Scope) (f : Addr) (cd : Value) (A : Around) (outer : List Env) (s : Shared) (H : Hp) (E : XK) : Cx where
  prog := P
  w := w
  K := K
  mg := mg
  base := base
  A := A.deeper (envOfC qual scope s.heap.objs.size f cd)
  N := N
  s₀ := s
  H₀ := H
  env := envOfC qual scope s.heap.objs.size f cd
  outer := outer
  stack := envOfC qual scope s.heap.objs.size f cd :: outer
  ex := []
  calm := true
  fn := fun _ => true
  pn := []
  xe := fun e s' => wpAny (model P w) (A.deeper (envOfC qual scope s.heap.objs.size f cd)) (leaving (envOfC qual scope s.heap.objs.size f cd) e) (fun _ s'' => CX outer H s E e s'') (fun e' s'' => CX outer H s E e' s'') s'

theorem cell_has {sc : Scope} {n : Nat} {x : Str} (h : sc.names.lookup x = some .cell) : ∃ c, (cellsFrom n sc.names []).lookup x = some c := by
  have q := PySem.W.cellsFrom_some sc.names n [] (.inl h)
  exact Option.isSome_iff_exists.mp q

theorem inv_start {CX : CXT} {P : Program} {w : World} {K : PySem.W.Frag} {mg : Str → Option Value} {base : Heap} {N ps : List Str} {qual : Str} {scope : Scope} {f : Addr} {cd : Value} {A : Around} {outer : List Env} {s s1 : Shared} {H : Hp} {E : XK} {us : List Value} {vs : List V}
    (S : FnScope N ps scope) (hd : A.handled = none) (e0 : Env0 P w K mg base A outer s H) (hl : vs.length = ps.length) (r : Vals vs us)
    (x : InCallC s s.heap.objs.size (bindL (envOfC qual scope s.heap.objs.size f cd).kindOf (ps.zip us) fun _ => none) (cellsFrom (s.heap.objs.size + 1) scope.names []) (bindC (envOfC qual scope s.heap.objs.size f cd).kindOf (ps.zip us) fun _ => none) s1) :
    Inv (cxOf CX P w K mg base N qual scope f cd A outer s H E) [] (start N vs) H s1 := by
  have hpl : ps.length ≤ N.length := by have := congrArg List.length S.pre; rw [List.length_take] at this; omega
  obtain ⟨h1, tk, rfl, hk⟩ := x.done
  have noA : ∀ b : Addr, b ∉ (cxOf CX P w K mg base N qual scope f cd A outer s H E).ex := fun b z => absurd (show b ∈ ([] : List Addr) from z) (by simp)
  refine ⟨⟨e0.mod, S.kind, rfl, rfl, Nat.le_refl _, fun y z c h1 h2 => ?_, fun y hy => ?_, fun y c _ h => ?_, fun _ => hd, Around.frames_deeper e0.frames, .inr ⟨rfl, rfl⟩, fun b z => absurd z (noA b), e0.bs, e0.bsz, fun b _ _ => noA b, fun b z => absurd z (noA b), e0.funs, e0.frf⟩,
    rfl, e0.bare, Un.kept hk, ⟨_, x.toInCall.ns, fun i y v h1 h2 h3 => ?_⟩, fun y c h => ⟨_, x.cell y c h⟩, e0.hok.fresh (Nat.le_refl _), fun y c h => ?_, fun p hp => absurd (show p ∈ ([] : List (Addr × Obj)) from hp) (by simp), e0.hok.kept hk, ?_⟩
  · exact name_of_addr x.apart (PySem.mem_of_lookup h1) (PySem.mem_of_lookup h2)
  · have hy : scope.names.lookup y = some .cell ∨ scope.names.lookup y = some .free := hy
    rcases hy with hy | hy
    · exact cell_has hy
    · exact absurd rfl (S.nofree _ (PySem.mem_of_lookup hy))
  · exact Nat.le_of_lt (x.above y c (PySem.mem_of_lookup h))
  · have hi : i < vs.length := by
      unfold start at h2
      by_cases hi : i < vs.length
      · exact hi
      · rw [List.getElem?_append_right (by simpa using hi)] at h2
        rw [List.getElem?_replicate] at h2
        split at h2 <;> cases h2
    have ha : vs[i]? = some v := by
      unfold start at h2
      rw [List.getElem?_append_left (by simpa using hi), List.getElem?_map] at h2
      cases e : vs[i]? with
      | none => rw [e] at h2; cases h2
      | some a => rw [e] at h2; cases h2; rfl
    obtain ⟨u, hu, rv⟩ := r.get ha
    have hp : ps[i]? = some y := by
      rw [← S.pre, List.getElem?_take_of_lt (by omega)]; exact h1
    have ndP : ps.Nodup := by rw [← S.pre]; exact S.nd.sublist (List.take_sublist _ _)
    refine ⟨u, rv, ?_⟩
    rcases S.par y (List.mem_of_getElem? hp) with k | k
    · exact .inl ⟨k, bindL_get ndP hp hu k⟩
    · obtain ⟨c, e⟩ := cell_has (n := s.heap.objs.size + 1) k
      refine .inr ⟨.inl k, c, e, ?_⟩
      have q := x.cell y c e
      rw [bindC_get ndP hp hu (by show scope.names.lookup y ≠ _; rw [k]; decide)] at q
      exact q
  · exact e0.hok.fresh (Nat.le_of_lt (x.above y c (PySem.mem_of_lookup h)))
  · unfold start
    show _ = N.length
    rw [List.length_append, List.length_map, List.length_replicate]
    omega

theorem fn_of {CX : CXT} {P : Program} {w : World} {K : PySem.W.Frag} {mg : Str → Option Value} {base : Heap} {k : Nat} {f : Addr} {name qual : Str} {params : Arguments} {body : List Stmt} {scope : Scope} {dV kV doc pm cdv ct oc : Value} {an od : Option Addr}
    {osl : Array (Option Value)} {N ps : List Str} {sp : Sp} (lk : K.lookup f = some ⟨oc, od, .func (PySem.W.fnOf name qual params body scope dV kV doc pm an cdv ct), osl⟩) (hcd : PySem.W.codeIn K cdv qual = true) (S : FnScope N ps scope)
    (len : ∀ vs H Q E, sp vs H Q E → vs.length = ps.length)
    (hbody : ∀ (A : Around) (outer : List Env) (s : Shared) (H : Hp) (vs : List V) (Q : VK) (E : XK), Room k (A.deeper (envOfC qual scope s.heap.objs.size f cdv)) → sp vs H Q E →
      ∃ t, PSs (cxOf CX P w K mg base N qual scope f cdv A outer s H E) body t ∧ t { nx := fun _ H' => Q .non H', rt := Q } (start N vs) H) :
    FnOk P w K mg base CX (k + 1) f (PySem.W.fnOf name qual params body scope dV kV doc pm an cdv ct) ps sp := by
  refine ⟨len, fun A outer s H args us vs Q E hr e0 hb r hsp => ?_⟩
  have hl := len _ _ _ _ hsp
  have KX : K.In s.heap := e0.mod.kin.keeps fun b o e => (e0.bs b o e).1
  have lim : s.heap.NoLimit := e0.mod.nolimit.keeps fun b o e => (e0.bs b o e).1
  have hkind : ∀ y ∈ ps.zip us, scope.names.lookup y.1 = some .local ∨ (scope.names.lookup y.1 = some .cell ∧ ((cellsFrom (s.heap.objs.size + 1) scope.names []).lookup y.1).isSome = true) := fun ⟨n, v⟩ hy => by
    rcases S.par n (List.of_mem_zip hy).1 with q | q
    · exact .inl q
    · exact .inr ⟨q, PySem.W.cellsFrom_some _ _ _ (.inl q)⟩
  refine codeAny_call_function hr.depth (KX _ _ lk) rfl S.co S.gen rfl (PySem.W.codeRec_of KX hcd) (hb _ _ _ _ ?_)
  refine wpAny_newFunctionEnv_cells S.kind hkind fun env he s1 x => ?_
  subst he
  refine ⟨lim.keeps x.toInCall.keep, codeAny_func ?_⟩
  obtain ⟨t, ht, hq⟩ := hbody A outer s H vs Q E (hr.deeper _) hsp
  have I : Inv (cxOf CX P w K mg base N qual scope f cdv A outer s H E) [] (start N vs) H s1 := inv_start S hr.hd e0 hl r x
  refine wpAny_mono (ht [] s1 (start N vs) H _ I hq) (fun fl s' hs => ?_) fun e s' hs => hs
  have fin : ∀ {σ' : St} {H' : Hp} {v : V} {u : Value}, Inv (cxOf CX P w K mg base N qual scope f cdv A outer s H E) [] σ' H' s' → RelV v u → Q v H' → CE outer P w H s Q u s' :=
    fun {σ' H' v u} J rv q => ⟨v, H', J.os, J.bare, J.base, J.hok, rv, q⟩
  cases fl with
  | ret u =>
    obtain ⟨v, σ', H', J, rv, q⟩ := hs
    exact fin J rv q
  | next =>
    obtain ⟨σ', H', J, q⟩ := hs
    exact fin (v := V.non) (u := Value.none) J rfl q
  | brk =>
    obtain ⟨_, _, _, q⟩ := hs
    exact False.elim q
  | cont =>
    obtain ⟨_, _, _, q⟩ := hs
    exact False.elim q
end L2

namespace L2
open PySem PySem.Spec PyProof.Rows
section
variable {X : Cx} {x : Str} {p pos : Pos} {e : Expr} {es : List Expr} {t : TA} {id T : String} {r : List V → Hp → VK → Prop}

def tCB (r : List V → Hp → VK → Prop) (t : TA) : TE := fun σ H Q => t σ H fun vs H1 => r vs H1 Q
theorem pe_callB (hc : CallR X (.builtin id) r) (hg : Gl X x) (hm : X.mg x = none) (hv : bootBuiltins x = some (.builtin id)) (ha : PA X (e :: es) t) (hn : x ≠ "__name__" := by decide) (hdb : (x == ("__debug__" : Str)) = false := by decide)
    (he : starEach (e :: es) X.env = (false, eval e X.env) :: starEach es X.env := by rfl) (hpl : (backTo pos (starEach es X.env)).any (·.1) = false := by rfl) : PE X (.Call (.Name x p) (e :: es) [] pos) (tCB r t) := by
  intro pins s σ H Q I h
  refine wpAny_Call_Name_kw (ld_blt I hg hm hv ?_ hn hdb)
  exact PyProof.Rows.callWith_builtin1 (thn (ha pos pins s σ H _ I h) fun us s1 ⟨vs, H1, I1, r1, q1⟩ => hc pins s1 σ H1 vs us Q I1 r1 q1) he hpl
theorem pe_callTy (hc : CallR X (.type T) r) (hg : Gl X x) (hm : X.mg x = none) (hv : bootBuiltins x = some (.type T)) (ha : PA X (e :: es) t) (hn : x ≠ "__name__" := by decide) (hdb : (x == ("__debug__" : Str)) = false := by decide)
    (he : starEach (e :: es) X.env = (false, eval e X.env) :: starEach es X.env := by rfl) (hpl : (backTo pos (starEach es X.env)).any (·.1) = false := by rfl) : PE X (.Call (.Name x p) (e :: es) [] pos) (tCB r t) := by
  intro pins s σ H Q I h
  refine wpAny_Call_Name_kw (ld_blt I hg hm hv ?_ hn hdb)
  exact PyProof.Rows.callWith_type1 (thn (ha pos pins s σ H _ I h) fun us s1 ⟨vs, H1, I1, r1, q1⟩ => hc pins s1 σ H1 vs us Q I1 r1 q1) he hpl
end
end L2

namespace HT
open PySem PyProof.Rows

section
open PySem.SeqAt
open PySem.AutoSeq1 (wpAny_loadPart')
open PySem.MeetsSeq PySem.MeetsSeq2 PySem.MeetsSeq3

end

section
variable {prog : Program} {w : World} {A : Around} {E : Value → Shared → Prop} {s : Shared}

end
end HT

namespace L2
open PySem PySem.Spec PyProof.Rows

abbrev TO := St → Hp → (Option Int → Hp → Prop) → Prop
def PO (X : Cx) (e : Option Expr) (t : TO) : Prop :=
  ∀ (pins : List (Addr × Obj)) (s : Shared) (σ : St) (H : Hp) (Q : Option Int → Hp → Prop), Inv X pins σ H s → t σ H Q →
    wpAny (model X.prog X.w) X.A (evalPart e X.env) (fun u s' => ∃ o H', Inv X pins σ H' s' ∧ IsPart u o ∧ Q o H') X.xe s
def tNoPart : TO := fun _ H Q => Q none H
def tPart (t : TE) : TO := fun σ H Q => t σ H fun x H1 => ∃ i, x = .int i ∧ Q (some i) H1

section
variable {X : Cx} {e : Expr} {te : TE} {lo hi : Option Expr} {tl th : TO} {pos p2 : Pos}

theorem po_none : PO X none tNoPart := by
  intro pins s σ H Q I h
  rw [evalPart_none]
  exact wpAny_pure ⟨none, H, I, .none, h⟩
theorem po_some (h : PE X e te) : PO X (some e) (tPart te) := by
  intro pins s σ H Q I hw
  rw [evalPart_some]
  refine thn (h pins s σ H _ I hw) fun u s1 ⟨x, H1, I1, r1, q1⟩ => ?_
  obtain ⟨i, rfl, q⟩ := q1
  obtain ⟨t, rfl⟩ := r1
  exact ⟨some i, H1, I1, .int i t, q⟩

def SlR (X : Cx) (r : V → Option Int → Option Int → Hp → VK → Prop) : Prop :=
  ∀ (pins : List (Addr × Obj)) (s : Shared) (σ : St) (H : Hp) (x : V) (v vl vu : Value) (lo hi : Option Int) (sl : Addr) (Q : VK), Inv X pins σ H s → RelV x v → s.heap.IsSliceOf sl vl vu .none → IsPart vl lo → IsPart vu hi → r x lo hi H Q →
    ∃ T id, typeLookup (.type T) "__getitem__" = pure (some (.builtin id)) ∧ s.TypeIs v T ∧ wpAny (model X.prog X.w) X.A (getItem v (.ref sl)) (EP X pins σ Q) X.xe s
def tSl (r : V → Option Int → Option Int → Hp → VK → Prop) (te : TE) (tl th : TO) : TE := fun σ H Q => te σ H fun x H1 => tl σ H1 fun l H2 => th σ H2 fun u H3 => r x l u H3 Q
theorem pe_slice {r : V → Option Int → Option Int → Hp → VK → Prop} (hr : SlR X r) (he : PE X e te) (hl : PO X lo tl) (hu : PO X hi th) : PE X (.Subscript e (.Slice lo hi none p2) pos) (tSl r te tl th) := by
  intro pins s σ H Q I h
  refine Subscript_ (thn (he pins s σ H _ I h) fun v s1 ⟨x, H1, I1, r1, q1⟩ => ?_)
  refine wpAny_Slice (thn (hl pins s1 σ H1 _ I1 q1) fun vl s2 ⟨l, H2, I2, pl, q2⟩ => thn (hu pins s2 σ H2 _ I2 q2) fun vu s3 ⟨u, H3, I3, pu, q3⟩ => ?_)
  rw [evalPart_none]
  refine wpAny_pure ?_
  have I4 : Inv X pins σ H3 { s3 with heap := s3.heap.push { cls := .type "slice", data := .fields #[vl, vu, .none] } } := I3.kept (t' := s3.toks) fun b ob q => Heap.get?_push_of_some _ q
  obtain ⟨T, id, hT, ht, hg⟩ := hr pins { s3 with heap := s3.heap.push { cls := .type "slice", data := .fields #[vl, vu, .none] } } σ H3 x v vl vu l u s3.heap.objs.size Q I4 r1 (Heap.IsSliceOf.new ..) pl pu q3
  show wpAny (model X.prog X.w) X.A (subscriptTail e (.Slice lo hi none p2) v (.ref s3.heap.objs.size)) (EP X pins σ Q) X.xe { s3 with heap := s3.heap.push { cls := .type "slice", data := .fields #[vl, vu, .none] } }
  exact tail_any (ops := [.ref s3.heap.objs.size, v]) ht hT hg (by with_unfolding_all rfl)

end
end L2

namespace L2
open PySem PySem.Spec PyProof.Rows

def ixN (n : Nat) (i : Int) : Option Nat := if 0 ≤ i then (if i < n then some i.toNat else none) else if -(n : Int) ≤ i then some (i + n).toNat else none
def atI {α : Type} (xs : List α) (i : Int) : Option α := (ixN xs.length i).bind fun j => xs[j]?
theorem ixN_seq {n : Nat} {i : Int} {j : Nat} (h : ixN n i = some j) : seqIndex? i n = some j ∧ j < n ∧ -(n : Int) ≤ i ∧ i < n := by
  unfold ixN at h
  by_cases h0 : 0 ≤ i
  · rw [if_pos h0] at h
    by_cases h1 : i < n
    · rw [if_pos h1] at h
      have e : i.toNat = j := Option.some.inj h
      exact ⟨by rw [seqIndex_of h0 h1, e], by omega, by omega, h1⟩
    · rw [if_neg h1] at h; cases h
  · rw [if_neg h0] at h
    by_cases h1 : -(n : Int) ≤ i
    · rw [if_pos h1] at h
      have e : (i + n).toNat = j := Option.some.inj h
      exact ⟨by rw [seqIndex_neg (by omega) h1, e], by omega, h1, by omega⟩
    · rw [if_neg h1] at h; cases h
theorem atI_get {α : Type} {xs : List α} {i : Int} {v : α} (h : atI xs i = some v) : ∃ j, seqIndex? i xs.length = some j ∧ xs[j]? = some v ∧ j < xs.length ∧ -(xs.length : Int) ≤ i ∧ i < xs.length := by
  unfold atI at h
  cases e : ixN xs.length i with
  | none => rw [e] at h; cases h
  | some j =>
    rw [e] at h
    obtain ⟨h1, h2, h3, h4⟩ := ixN_seq e
    exact ⟨j, h1, h, h2, h3, h4⟩
theorem atI_nat {α : Type} {xs : List α} {j : Nat} {v : α} (h : xs[j]? = some v) : atI xs (j : Int) = some v := by
  have hj : j < xs.length := (List.getElem?_eq_some_iff.mp h).1
  have e : ixN xs.length (j : Int) = some j := by
    unfold ixN
    rw [if_pos (by omega), if_pos (by omega)]; simp
  unfold atI; rw [e]; exact h
def PlainIx (b : Expr) : Prop := ∀ o i, subscripted b false o i = operate [o, i] (getItem o i)
def IxR (X : Cx) (r : R2) : Prop :=
  ∀ (value slice : Expr) (pins : List (Addr × Obj)) (s : Shared) (σ : St) (H : Hp) (x y : V) (v u : Value) (Q : VK), Inv X pins σ H s → RelV x v → RelV y u → r x y H Q →
    subscripted slice false v u = operate [v, u] (getItem v u) → wpAny (model X.prog X.w) X.A (subscriptTail value slice v u) (EP X pins σ Q) X.xe s
def MtR (X : Cx) (id : String) (r : V → List V → Hp → VK → Prop) : Prop :=
  ∀ (pins : List (Addr × Obj)) (s : Shared) (σ : St) (H : Hp) (x : V) (xs : List V) (v : Value) (us : List Value) (Q : VK), Inv X pins σ H s → RelV x v → Vals xs us → r x xs H Q →
    wpAny (model X.prog X.w) X.A (call (.builtin id) (v :: us)) (EP X pins σ Q) X.xe s
section
variable {X : Cx} {a b : Expr} {ta tb : TE} {pos : Pos}
theorem pe_ix {r : R2} (hr : IxR X r) (ha : PE X a ta) (hb : PE X b tb) (hs : PlainIx b) : PE X (.Subscript a b pos) (tOp r ta tb) := by
  intro pins s σ H Q I h
  exact Subscript_ (binT ha hb I h fun v u s2 x y H2 I2 rx ry q => hr a b pins s2 σ H2 x y v u Q I2 rx ry q (hs _ _))

def rIxL (K : PySem.W.Frag) : R2 := fun x y H Q => ∃ p xs i v, x = .ref p ∧ y = .int i ∧ SqL K H p xs ∧ atI xs i = some v ∧ Q v H
def rIxS : R2 := fun x y H Q => ∃ z i c, x = .str z ∧ y = .int i ∧ z.length ≤ sizeLine ∧ atI z.cps.toList i = some c ∧ Q (.str ⟨#[c]⟩) H
theorem ix_list : IxR X (rIxL X.K) := by
  intro value slice pins s σ H x y v u Q I rx ry h hs
  obtain ⟨p, xs, i, z, rfl, rfl, hq, he, q⟩ := h
  cases rx
  obtain ⟨t, rfl⟩ := ry
  obtain ⟨its, r, pl, hz⟩ := I.list hq
  obtain ⟨j, h1, h2, h3, h4, h5⟩ := atI_get he
  obtain ⟨w, ew, rw'⟩ := r.get h2
  have hl := r.length
  have hn := line63
  have fin : EP X pins σ Q w s := ⟨z, H, I, rw', q⟩
  by_cases h0 : 0 ≤ i
  · have hj : i.toNat = j := by
      rw [seqIndex_of h0 h5] at h1
      exact Option.some.inj h1
    exact item_listR pl.isList h0 (by omega) (by rw [hj]; simpa using ew) fin hs
  · have hj : (i + (its.toArray.size : Int)).toNat = j := by
      rw [seqIndex_neg (by omega) h4] at h1
      rw [List.size_toArray, ← hl]
      exact Option.some.inj h1
    exact subscriptTail_builtinR (x := w) pl.isList.typeIs slot_list_getitem.lookup
      (wpAny_getItem_list_neg (Q := fun r s' => r = w ∧ EP X pins σ Q r s') pl.isList (by omega) (by rw [List.size_toArray] <;> omega) (by omega) (by rw [hj]; simpa using ew) ⟨rfl, fin⟩) hs
theorem ix_str : IxR X rIxS := by
  intro value slice pins s σ H x y v u Q I rx ry h hs
  obtain ⟨z, i, c, rfl, rfl, hz, he, q⟩ := h
  obtain ⟨t, rfl⟩ := rx
  obtain ⟨t', rfl⟩ := ry
  obtain ⟨j, h1, h2, h3, h4, h5⟩ := atI_get he
  have hl : z.cps.toList.length = z.length := by simp [Str.length]
  rw [hl] at h1 h4 h5
  have hn := line63
  exact tail_any (typeIs_str s z t) slot_str_getitem.lookup (getItem_str (c := c) (by
    have e1 : decide (i < -(2 ^ 63 : Int)) = false := decide_eq_false (by omega)
    have e2 : decide (i ≥ 2 ^ 63) = false := decide_eq_false (by omega)
    rw [e1, e2, Bool.or_false]) (by rw [h1]; simpa using h2) ⟨.str ⟨#[c]⟩, H, I.tok _, ⟨_, rfl⟩, q⟩) hs
theorem call_len_seq : CallR X (.builtin "len") (fun xs H Q => ∃ p ys, xs = [.ref p] ∧ (SqL X.K H p ys ∨ SqT X.K H p ys) ∧ Q (.int ys.length) H) := by
  intro pins s σ H xs us Q I r h
  obtain ⟨p, ys, rfl, hq, q⟩ := h
  obtain ⟨u, rfl, rx⟩ := vals1 r
  cases rx
  have hn := line63
  rcases hq with hq | hq
  · obtain ⟨its, r', pl, hz⟩ := I.list hq
    have hlen := r'.length
    exact Calls.call_len_list pl.isList (by simp only [List.size_toArray] <;> omega) ⟨.int ys.length, H, I.tok _, ⟨s.toks + 1, by rw [List.size_toArray, hlen]⟩, q⟩
  · obtain ⟨its, r', pl, hz⟩ := I.tuple hq
    have hlen := r'.length
    exact len_tuple pl (by simp only [List.size_toArray] <;> omega) ⟨.int ys.length, H, I.tok _, ⟨s.toks + 1, by rw [List.size_toArray, hlen]⟩, q⟩
theorem call_list_of : CallR X (.type "list") (fun xs H Q => ∃ p ys, xs = [.ref p] ∧ (SqL X.K H p ys ∨ SqT X.K H p ys) ∧ ∀ l, H l = none → Q (.ref l) (upd H l (.lst ys))) := by
  intro pins s σ H xs us Q I r h
  obtain ⟨p, ys, rfl, hq, q⟩ := h
  obtain ⟨u, rfl, rx⟩ := vals1 r
  cases rx
  have fin : ∀ (its : List Value), Vals ys its → ys.length ≤ sizeLine → ∀ (h' : Heap) (c' : Nat), (∀ b o', s.heap.get? b = some o' → h'.get? b = some o') →
      h'.get? s.heap.objs.size = some { cls := .type "list", dict := none, data := .seq its.toArray c', slots := #[] } → EP X pins σ Q (.ref s.heap.objs.size) { s with heap := h' } := fun its r' hz h' c' kp e =>
    ⟨.ref s.heap.objs.size, _, I.laid (t' := s.toks) kp (Nat.le_refl _) (show ObjOk X.prog X.w _ h' _ (.lst ys) from ⟨hz, its, c', r', e⟩), rfl, q _ (I.hok.fresh (Nat.le_refl _))⟩
  rcases hq with hq | hq
  · obtain ⟨its, r', pl, hz⟩ := I.list hq
    have hlen := r'.length
    obtain ⟨o, ho, hc, n, hd⟩ := pl.isList
    exact call_list_seq p (.inl rfl) ho hc hd (fun h' c' kp e => fin its r' hz h' c' kp e) (by simp only [List.size_toArray] <;> omega)
  · obtain ⟨its, r', pl, hz⟩ := I.tuple hq
    have hlen := r'.length
    obtain ⟨o, ho, hc, n, hd⟩ := pl
    exact call_list_seq p (.inr rfl) ho hc hd (fun h' c' kp e => fin its r' hz h' c' kp e) (by simp only [List.size_toArray] <;> omega)
def tyV (K : PySem.W.Frag) (T : String) (x : V) (H : Hp) : Prop := match x with
  | .str _ => T = "str"
  | .int _ => T = "int"
  | .ref p => (T = "list" ∧ ∃ xs, SqL K H p xs) ∨ (T = "tuple" ∧ ∃ o, K.lookup p = some o ∧ o.cls = .type "tuple" ∧ o.dict = none) ∨
      (T = "dict" ∧ ((∃ kvs, H p = some (.dK kvs)) ∨ ∃ kvs, H p = some (.dT kvs))) ∨ (T = "set" ∧ ∃ S n, H p = some (.set S n))
  | _ => False
theorem tyV_is {pins : List (Addr × Obj)} {σ : St} {H : Hp} {s : Shared} {T : String} {x : V} {v : Value} (I : Inv X pins σ H s) (r : RelV x v) (ty : tyV X.K T x H) :
    s.TypeIs v T ∧ ∀ a, v = .ref a → ∃ ob, s.heap.get? a = some ob ∧ ob.dict = none := by
  cases x with
  | str z =>
    obtain ⟨t, rfl⟩ := r
    cases (show T = "str" from ty)
    exact ⟨typeIs_str s z t, fun _ e => nomatch e⟩
  | int i =>
    obtain ⟨t, rfl⟩ := r
    cases (show T = "int" from ty)
    exact ⟨typeIs_int s i t, fun _ e => nomatch e⟩
  | ref p =>
    cases r
    rcases ty with ⟨rfl, xs, hq⟩ | ⟨rfl, o, hk, hc, hd⟩ | ⟨rfl, hk⟩ | ⟨rfl, S, n, hk⟩
    · obtain ⟨its, _, pl, _⟩ := I.list hq
      refine ⟨pl.isList.typeIs, fun a e => ?_⟩
      cases e
      obtain ⟨o, n, e, c, hd, _⟩ := pl
      exact ⟨o, e, hd⟩
    · refine ⟨⟨o, I.kIn p o hk, hc⟩, fun a e => ?_⟩
      cases e
      exact ⟨o, I.kIn _ o hk, hd⟩
    · have z : ∃ o, s.heap.get? p = some o ∧ o.ExactDict := by
        rcases hk with ⟨kvs, hk⟩ | ⟨kvs, hk⟩
        · obtain ⟨_, _, _, _, o, _, _, e, ex, _⟩ := I.hok p _ hk
          exact ⟨o, e, ex⟩
        · obtain ⟨_, _, _, _, o, _, _, e, ex, _⟩ := I.hok p _ hk
          exact ⟨o, e, ex⟩
      obtain ⟨o, e, ex⟩ := z
      refine ⟨⟨o, e, ex.1⟩, fun a e2 => ?_⟩
      cases e2
      exact ⟨o, e, ex.2.1⟩
    · obtain ⟨o, _, _, _, e, ex, _⟩ := I.hok p _ hk
      refine ⟨⟨o, e, ex.1⟩, fun a e2 => ?_⟩
      cases e2
      exact ⟨o, e, ex.2.1⟩
  | _ => exact False.elim ty
def tBM (K : PySem.W.Frag) (T : String) (r : V → List V → Hp → VK → Prop) (to : TE) (t : TA) : TE := fun σ H Q => to σ H fun x H1 => tyV K T x H1 ∧ t σ H1 fun xs H2 => r x xs H2 Q
variable {o e : Expr} {es : List Expr} {to : TE} {t : TA} {name : Str} {apos cpos : Pos} {T id : String} {r : V → List V → Hp → VK → Prop}
theorem pe_bm (pa : PlainAttrs T) (slot : Slot T name id) (hty : typeOf (.builtin id) = pure (.type "method_descriptor")) (hm : MtR X id r) (ho : PE X o to) (ha : PA X (e :: es) t)
    (hbase : attributeBase o name X.env (eval o X.env) = eval o X.env := by rfl)
    (hfew : ((backTo cpos (starEach (e :: es) X.env)).all (fun x => !x.1) && (backToKw cpos (keywordEach [] X.env)).all (fun x => x.1.isSome)
      && decide ((e :: es).length + ([] : List Keyword).length + (if ([] : List Keyword).isEmpty then 0 else 1) < 30)) = true := by rfl)
    (hline : (apos.endLine == cpos.line) = true := by rfl) (hs : starEach (e :: es) X.env = (false, eval e X.env) :: starEach es X.env := by rfl) (hplain : (backTo cpos (starEach es X.env)).any (·.1) = false := by rfl) :
    PE X (.Call (.Attribute o name apos) (e :: es) [] cpos) (tBM X.K T r to t) := by
  intro pins s σ H Q I h
  refine wpAny_Call_method_late hbase hfew hline rfl (thn (ho pins s σ H _ I h) fun v s1 ⟨x, H1, I1, r1, ty, q1⟩ => ?_)
  obtain ⟨h1, h2⟩ := tyV_is I1 r1 ty
  refine ⟨T, id, pa, slot, hty, h1, h2, ?_⟩
  have hA := ha cpos pins s1 σ H1 _ I1 q1
  rw [hs] at hA ⊢
  refine Calls.callWith_builtin (by show (false || (backTo cpos (starEach es X.env)).any (·.1)) = false; rw [hplain] <;> rfl) (Calls.evalArgs_plain ?_)
  exact thn hA fun us s2 ⟨vs, H2, I2, r2, q2⟩ => hm pins s2 σ H2 x vs v us Q I2 r1 r2 q2
/- xs.append(e), list.index on a module's tuple .. are MtR facts of 06m -/
end
end L2

namespace L2
open PySem PySem.Spec PyProof.Rows

def MtM (X : Cx) (id : String) (r : V → List V → Hp → VK → Prop) : Prop :=
  ∀ (pins : List (Addr × Obj)) (s : Shared) (σ : St) (H : Hp) (x : V) (xs : List V) (v : Value) (us : List Value) (Q : VK), Inv X pins σ H s → RelV x v → Vals xs us → r x xs H Q →
    wpAny (model X.prog X.w) X.A (call (.builtin id) (v :: us)) (EP X pins σ Q) X.xe s

theorem Vals.one : ∀ {x : V} {us : List Value}, Vals [x] us → ∃ u, us = [u] ∧ RelV x u
  | _, _, .cons r .nil => ⟨_, rfl, r⟩
theorem Vals.rep {xs : List V} {us : List Value} (h : Vals xs us) : ∀ k : Nat, Vals (List.replicate k xs).flatten (List.replicate k us).flatten
  | 0 => .nil
  | k + 1 => by
    rw [List.replicate_succ, List.replicate_succ, List.flatten_cons, List.flatten_cons]
    exact Vals.append h (Vals.rep h k)
theorem foldl_rep (its : List Value) : ∀ (k : Nat) (acc : List Value),
    List.foldl (fun x1 x2 => x1 ++ x2) acc.toArray (List.replicate k its.toArray) = (acc ++ (List.replicate k its).flatten).toArray
  | 0, acc => by simp
  | k + 1, acc => by
    have e : acc.toArray ++ its.toArray = (acc ++ its).toArray := by simp
    have e2 : (acc ++ its) ++ (List.replicate k its).flatten = acc ++ (List.replicate (k + 1) its).flatten := by
      rw [List.replicate_succ, List.flatten_cons, List.append_assoc]
    rw [← e2, ← foldl_rep its k (acc ++ its), ← e, List.replicate_succ, List.foldl_cons]

section
variable {X : Cx} {pins : List (Addr × Obj)} {σ : St} {H : Hp} {s : Shared} {l b : Addr} {xs ys zs : List V}

theorem Inv.lset {its its' : List Value} {n : Nat} {f : Array Value → Array Value} {t' : Nat} (I : Inv X pins σ H s) (hH : H l = some (.lst xs))
    (e : s.heap.get? l = some { cls := .type "list", data := .seq its.toArray n }) (hf : f its.toArray = its'.toArray) (hv : Vals ys its') (hz : ys.length ≤ sizeLine) :
    Inv X pins σ (upd H l (.lst ys)) { s with heap := s.heap.update l (Obj.mapSeq f), toks := t' } := by
  have q := PySem.IsL.update e f
  rw [hf] at q
  refine I.write (x := l) (e := l) (by rw [hH]; exact trivial) (.inl rfl) (fun b' u hb hu => (Heap.get?_update_other s.heap (Obj.mapSeq f) (Ne.symm hb)).trans hu) ⟨_, q⟩ ?_
  exact ⟨hz, its', _, hv, q⟩
theorem Inv.lnew {its : List Value} {t' : Nat} (I : Inv X pins σ H s) (hv : Vals ys its) (hz : ys.length ≤ sizeLine) :
    Inv X pins σ (upd H s.heap.objs.size (.lst ys)) { s with heap := s.heap.push { cls := .type "list", data := .seq its.toArray }, toks := t' } :=
  I.laid (fun _ _ q => Heap.get?_push_of_some _ q) (Nat.le_refl _) ⟨hz, its, 0, hv, Heap.get?_push_size _ rfl⟩
theorem Inv.fresh (I : Inv X pins σ H s) : H s.heap.objs.size = none := I.hok.fresh (Nat.le_refl _)
theorem Inv.lstM (I : Inv X pins σ H s) (hH : H l = some (.lst xs)) : xs.length ≤ sizeLine ∧ ∃ (its : List Value) (n : Nat), Vals xs its ∧ xs.length = its.length ∧ s.heap.get? l = some { cls := .type "list", data := .seq its.toArray n } := by
  obtain ⟨z, its, n, r, e⟩ := I.hok l _ hH
  exact ⟨z, its, n, r, r.length, e⟩

theorem notLongL {n : Nat} (h : n ≤ sizeLine) : Builtin.List.listTooLong n = false := by
  unfold Builtin.List.listTooLong
  exact decide_eq_false (by omega)
end

section
variable {X : Cx}

def rAppend : V → List V → Hp → VK → Prop := fun x vs H Q => ∃ l xs y, x = .ref l ∧ vs = [y] ∧ H l = some (.lst xs) ∧ xs.length < sizeLine ∧ Q .non (upd H l (.lst (xs ++ [y])))
theorem mt_append : MtM X "list.append" rAppend := by
  intro pins s σ H x vs v us Q I rx rv h
  obtain ⟨l, xs, y, rfl, rfl, hH, hz, q⟩ := h
  cases rx
  obtain ⟨u, rfl, ru⟩ := rv.one
  obtain ⟨z, its, n, r, hl, e⟩ := I.lstM hH
  refine call_meets F.slot_list_append ⟨_, e, rfl⟩ F.entry_list_append (F.args_list_append_2 _ _) (PySem.list_append l its.toArray n u (by rw [List.size_toArray]; omega)) ⟨e, ?_⟩
  refine ⟨.non, _, I.lset (its' := its ++ [u]) hH e (by simp) (r.append (.cons ru .nil)) ?_, rfl, q⟩
  rw [List.length_append, List.length_singleton]
  omega

def rCat : R2 := fun x y H Q => ∃ l b xs zs, x = .ref l ∧ y = .ref b ∧ H l = some (.lst xs) ∧ H b = some (.lst zs) ∧ xs.length + zs.length ≤ sizeLine ∧ ∀ p, H p = none → Q (.ref p) (upd H p (.lst (xs ++ zs)))
theorem op_cat : OpR X (binaryOp .Add) rCat := by
  intro pins s σ H x y v u Q I rx ry h
  obtain ⟨l, b, xs, zs, rfl, rfl, hH, hB, hz, q⟩ := h
  cases rx
  cases ry
  obtain ⟨z, its, n, r, hl, e⟩ := I.lstM hH
  obtain ⟨z2, its2, n2, r2, hl2, e2⟩ := I.lstM hB
  refine PySem.P.add_list e e2 ?_ (by rw [List.size_toArray, List.size_toArray]; omega)
  have ea : its.toArray ++ its2.toArray = (its ++ its2).toArray := by simp
  rw [ea]
  exact ⟨.ref _, _, I.lnew (t' := s.toks) (r.append r2) (by rw [List.length_append]; omega), rfl, q _ I.fresh⟩
def rRep : R2 := fun x y H Q => ∃ l k xs, x = .ref l ∧ y = .int k ∧ H l = some (.lst xs) ∧ -(2 ^ 63) ≤ k ∧ k < 2 ^ 63 ∧ xs.length * k.toNat ≤ sizeLine ∧
  ∀ p, H p = none → Q (.ref p) (upd H p (.lst (List.replicate k.toNat xs).flatten))
theorem len_rep {α : Type} (xs : List α) (k : Nat) : (List.replicate k xs).flatten.length = k * xs.length := by
  induction k with
  | zero => simp
  | succ k ih => rw [List.replicate_succ, List.flatten_cons, List.length_append, ih, Nat.succ_mul, Nat.add_comm]
theorem op_rep : OpR X (binaryOp .Mult) rRep := by
  intro pins s σ H x y v u Q I rx ry h
  obtain ⟨l, k, xs, rfl, rfl, hH, h1, h2, hz, q⟩ := h
  cases rx
  obtain ⟨t, rfl⟩ := ry
  obtain ⟨z, its, n, r, hl, e⟩ := I.lstM hH
  have hlen : its.toArray.size * k.toNat ≤ sizeLine := by rw [List.size_toArray, ← hl]; exact hz
  have hcap : ¬ its.toArray.size * k.toNat > (2 ^ 63 - 1) / 8 := by
    have : (sizeLine : Nat) ≤ (2 ^ 63 - 1) / 8 := by decide
    omega
  have hfit : ¬ (!Builtin.List.listFitsIndex k) = true := by
    rw [fitsIndex_both h1 h2]
    exact Bool.false_ne_true
  have hlong : ¬ Builtin.List.listTooLong (its.toArray.size * k.toNat) = true := by
    rw [notLongL hlen]
    exact Bool.false_ne_true
  have hnew : List.foldl (fun x1 x2 => x1 ++ x2) #[] (List.replicate (if its.toArray.isEmpty = true then 0 else k.toNat) its.toArray) = (List.replicate k.toNat its).flatten.toArray := by
    have f0 : ∀ m : Nat, List.foldl (fun x1 x2 => x1 ++ x2) #[] (List.replicate m its.toArray) = (List.replicate m its).flatten.toArray := fun m => by
      have := foldl_rep its m []
      rw [List.nil_append] at this
      exact this
    rw [f0]
    cases its with
    | nil => simp
    | cons a r' => rw [if_neg (by simp)]
  refine wpAny_binaryOp_repeat_ref (T := "list") (U := "int") (by decide) ⟨_, e, rfl⟩ (fun s' => typeIs_int s' k t) noFill_list_mul F.fills_int_mul F.slot_int_rmul repeat_list F.slot_int_index.lookup
    (call_meets F.slot_int_rmul (typeIs_int s k t) F.entry_int_rmul (F.args_int_rmul_2 _ _) (int___rmul___int_list k t l its.toArray n)
      ⟨e, rfl, ⟨_, e, rfl⟩, call_meets F.slot_list_mul ⟨_, e, rfl⟩ F.entry_list_mul (F.args_list_mul_2 _ _) (AutoListH.list___mul___list_int_3 l its.toArray n k t hfit hcap hlong) ⟨e, ?_⟩⟩)
  rw [hnew]
  exact ⟨.ref _, _, I.lnew (t' := s.toks) (r.rep k.toNat) (by rw [len_rep, Nat.mul_comm]; exact hz), rfl, q _ I.fresh⟩

end

section
variable {prog : Program} {w : World} {A : Around} {E : Value → Shared → Prop} {s : Shared}
end

section
variable {X : Cx}
end
end L2

namespace Att
open PySem PySem.W PySem.Calls PyProof.Rows

theorem ints_of_wellAll {P : Params} {h : Heap} : ∀ (ns : List Int) (vs : List Value), WellAll P h vs (ns.map WData.int) → IntsAre vs ns := by
  intro ns
  induction ns with
  | nil =>
    intro vs w
    rw [List.map_nil] at w
    cases w
    exact .nil
  | cons n ns ih =>
    intro vs w
    rw [List.map_cons] at w
    cases w with
    | cons a b =>
      cases a
      exact .cons _ _ (ih _ b)

theorem script_of {l : OpenLaw} {n : Nat} (hn : l.most = some n) {P : Params} {h : Heap} {args : List WData} {vals : List Value}
    (hpre : l.row.toRowW.claim.pre args = true) (hwl : WellAll P h vals args) :
    ∃ a vs ns, vals = [Value.ref a] ∧ args = [WData.list (ns.map WData.int)] ∧ h.get? a = some { cls := .type "list", data := .seq vs.toArray } ∧ IntsAre vs ns ∧ ns.length ≤ n := by
  have hsh : WShape.hasAll [] args [.list .int] = true := (pre_splitW hpre).1
  have hc : l.pre.holds [] { args := args } = true := (pre_splitW hpre).2
  obtain ⟨d, r, rfl, h1, h2⟩ := hasAllW_cons hsh
  obtain rfl := hasAllW_nil h2
  obtain ⟨xs, rfl, h3⟩ := hasW_list h1
  obtain ⟨ns, rfl⟩ := items_int h3
  have hlen : ns.length ≤ n := by
    unfold OpenLaw.pre at hc
    have h4 : (WTm.not (.lt (.lit (.int (n : Int))) (.len (.arg 0)))).holds [] { args := [.list (ns.map .int)] } = true := by
      have h4 := (holds_andW hc).1
      rw [hn] at h4
      exact h4
    have h5 := condW_of h4 (w_not (w_lt w_lit (w_len_list (w_arg rfl))))
    rw [List.length_map] at h5
    refine Nat.le_of_not_lt fun q => ?_
    have q' : (n : Int) < ((ns.length : Nat) : Int) := by omega
    first
      | (rw [decide_eq_true q'] at h5; exact absurd h5 (by decide))
      | (simp at h5; omega)
  cases hwl with
  | cons w1 w2 =>
    cases w2
    cases w1 with
    | list ho hall => exact ⟨_, _, ns, rfl, rfl, ho, ints_of_wellAll ns _ hall, hlen⟩

theorem post_true (l : OpenLaw) (args : List WData) : l.row.toRowW.claim.post args (.bool true) args = true :=
  postW_of (r := l.row.toRowW) (X := (true == true))
    (show WShape.has [] (.bool true) .bool = true by first | rfl | decide | simp [WShape.has, WShape.arms, WShape.armsAll])
    (show (WTm.eq .res (.lit (.bool true))).value [] { args := args, res := some (.bool true), after := args } = some (.bool (true == true)) from w_eq_bool (w_res rfl) w_lit) rfl

theorem attach_call {l : OpenLaw} {n : Nat} {q : Program} {loose : List Str} {XP : (Str → Option Value) → Heap → Prop} {YP : World → Heap → Prop} {d : DefRec}
    (hn : l.most = some n) (hdf : d.params.defaults = [])
    (call : ∀ (w : World) (s₀ s₁ : Shared) (mg mb : Str → Option Value) (fa : Addr) (o : Obj) (pm cd doc : Value) (a : Addr) (vs : List Value) (ns : List Int),
      Ground q loose [] XP w s₀ mg mb s₁.heap → YP w s₁.heap →
      s₁.heap.get? fa = some o → o.data = .func (docDef d.name d.params d.body d.scope pm cd doc) → s₁.heap.CodeRec cd d.name → mg d.name = some (.ref fa) →
      s₁.heap.get? a = some { cls := .type "list", data := .seq vs.toArray } → IntsAre vs ns → ns.length ≤ n → s₁.gens = #[] →
      codeAny (model l.prog w) callerA (.call (.ref fa) ⟨[.ref a], []⟩) (fun r s' => r = .ok (.ret (.bool true)) ∧ OldK s₁.heap s'.heap ∧ s'.os = s₁.os ∧ AllBare s'.gens) s₁) :
    WalkO q loose XP YP l.row.toRowW d [] (fun f vs => PySem.call f vs) := by
  intro w s₀ s₁ mg mb G Y fa o pm cd doc dV kV ho hd hcd hD hmg hg args vals as hpre hlay hrd hwl hlo
  obtain rfl : dV = .none := Dflts.none hD hdf
  obtain rfl : kV = .none := Dflts.noKw hD
  obtain ⟨a, vs, ns, rfl, rfl, hobj, hints, hlen⟩ := script_of hn hpre hwl
  refine enter_call (codeAny_mono (call w s₀ s₁ mg mb fa o pm cd doc a vs ns G Y ho (fd_plain hd) hcd hmg hobj hints hlen hg) fun r s' hq => ?_)
  obtain ⟨rfl, h2, h3, h4⟩ := hq
  exact ⟨.inl ⟨.bool true, .bool true, [], rfl, fun _ => rfl, .bool true, post_true l _, fun _ => ⟨List.Pairwise.nil, fun _ hm => (nomatch hm)⟩⟩, h2, h3, h4⟩

section
variable {prog : Program} {w : World} {A : Around} {E : Value → Shared → Prop} {s : Shared} {K : Frag}

end
end Att

namespace L2
open PySem PySem.Spec PyProof.Rows

theorem vals_ints : ∀ {vs : List Value} {ns : List Int}, IntsAre vs ns → Vals (ns.map V.int) vs
  | _, _, .nil => .nil
  | _, _, .cons n t h => .cons ⟨t, rfl⟩ (vals_ints h)

def Only (H : Hp) : Prop := ∀ b, H b = none ∨ ∃ o xs, H b = some (.frz o (.lst xs))

theorem law_call {P : Program} {w : World} {K : PySem.W.Frag} {mg mb : Str → Option Value} {CX : CXT} {k : Nat} {fa a : Addr} {fd : FuncData} {x : Str} {sp : Sp} {s₁ : Shared} {vs : List Value} {ns : List Int}
    (KX : K.In s₁.heap) (hns : s₁.heap.Ns mainGlobals mg) (hb : s₁.heap.Ns builtinsNs mb) (hbb : ∀ x : Str, x ≠ "__name__" → mb x = bootBuiltins x) (hlim : s₁.heap.NoLimit) (hg : s₁.gens = #[])
    (ha : s₁.heap.get? a = some { cls := .type "list", data := .seq vs.toArray }) (hi : IntsAre vs ns) (hl : ns.length ≤ sizeLine) (hr : Room k callerA)
    (F : ∀ base : Heap, K.In base → base.Ns mainGlobals mg → FnOk P w K mg base CX k fa fd [x] sp) (hbind : ∀ (s : Shared) (u : Value), BindsTo s fd ⟨[u], []⟩ [(x, u)])
    (hsp : ∀ H : Hp, Only H → SqL K H a (ns.map V.int) → sp [.ref a] H (fun v _ => v = .bl true) fun _ _ _ => False)
    (hCX : ∀ H e s', CX [] H s₁ (fun _ _ _ => False) e s' → False) :
    codeAny (model P w) callerA (.call (.ref fa) ⟨[.ref a], []⟩) (fun r s' => r = .ok (.ret (.bool true)) ∧ OldK s₁.heap s'.heap ∧ s'.os = s₁.os ∧ AllBare s'.gens) s₁ := by
  have rv := vals_ints hi
  have lenV := hi.length
  -- from an abstract heap in which nothing but the script may be tracked
  have core : ∀ H : Hp, Only H → SqL K H a (ns.map V.int) → HOk P w H s₁.heap → (∀ b, H b ≠ none → b = a) → (H a ≠ none → K.lookup a = none) →
      codeAny (model P w) callerA (.call (.ref fa) ⟨[.ref a], []⟩) (fun r s' => r = .ok (.ret (.bool true)) ∧ OldK s₁.heap s'.heap ∧ s'.os = s₁.os ∧ AllBare s'.gens) s₁ := by
    intro H hO hS hok hA hK
    have base_of : ∀ {b : Addr} {o : Obj}, s₁.heap.get? b = some o → H b = none → (hidT s₁.heap H).get? b = some o := fun e n => hidT_get e n
    have noA : ∀ {b : Addr} {o : Obj} {es : Array DictEntry} {ep : Nat}, s₁.heap.get? b = some o → o.data = .dict es ep → H b = none := fun {b o es ep} e d => by
      cases q : H b with
      | none => rfl
      | some u =>
        have e' : b = a := hA b (by rw [q]; simp)
        subst e'
        rw [ha] at e; cases e
        have d' : Data.seq vs.toArray _ = Data.dict es ep := d
        cases d'
    have nsK : ∀ {b : Addr} {m : Str → Option Value}, s₁.heap.Ns b m → (hidT s₁.heap H).Ns b m := fun {b m} ⟨o, es, ep, e, d, r⟩ => ⟨o, es, ep, base_of e (noA e d), d, r⟩
    have hKb : K.In (hidT s₁.heap H) := fun b o e => base_of (KX b o e) (by
      cases q : H b with
      | none => rfl
      | some u =>
        have e' : b = a := hA b (by rw [q]; simp)
        subst e'
        rw [hK (by rw [q]; simp)] at e; cases e)
    have hM : Mod K mg (hidT s₁.heap H) := ⟨hKb, nsK hns, ⟨mb, nsK hb, hbb⟩, let ⟨mc, h1, h2⟩ := hlim; ⟨mc, nsK h1, h2⟩⟩
    have e0 : Env0 P w K mg (hidT s₁.heap H) callerA [] s₁ H := ⟨rfl, hM, fun b o e => of_hidT e, Nat.le_of_eq (hidT_size _ _), trivial, fun b hb => absurd (show b ∈ ([] : List Addr) from hb) (by simp), hok, .of_eq hg⟩
    refine codeAny_mono ((F _ hKb (nsK hns)).run callerA [] s₁ H ⟨[.ref a], []⟩ [.ref a] [.ref a] _ _ hr e0 (hbind s₁ (.ref a)) (.cons rfl .nil) (hsp H hO hS)) fun r s' h => ?_
    cases r with
    | error e => exact (hCX H e s' h).elim
    | ok fl =>
      cases fl with
      | next => exact False.elim h
      | brk => exact False.elim h
      | cont => exact False.elim h
      | ret u =>
        obtain ⟨v, H', os, bare, un, hok', r', q⟩ := h
        have q' : v = .bl true := q
        subst q'
        obtain rfl : u = Value.bool true := r'
        refine ⟨rfl, OldK.of_keep fun b o e => ?_, os, bare⟩
        cases q : H b with
        | none => exact un.keep b o e q (by intro z; exact absurd (show b ∈ ([] : List Addr) from z) (by simp)) (by simp)
        | some u =>
          rcases hO b with z | ⟨ob, xs, z⟩
          · rw [q] at z; cases z
          · have z2 := un.frzs b ob _ z
            obtain ⟨e1, _⟩ := hok b _ z
            obtain ⟨e2, _⟩ := hok' b _ z2
            rw [e] at e1; cases e1
            exact e2
  cases hk : K.lookup a with
  | some o =>
    -- the script is one of the module's own objects
    have e := KX a o hk
    rw [ha] at e
    cases e
    refine core (fun _ => none) (fun _ => .inl rfl) (.inr ⟨_, vs.toArray, _, hk, rfl, rfl, rfl, by rw [List.size_toArray, lenV]; exact hl, by simpa using rv⟩) (fun b u z => by have z' : (none : Option HO) = some u := z; cases z') (fun b z => absurd rfl z) fun z => absurd rfl z
  | none =>
    refine core (fun b => if b = a then some (.frz { cls := .type "list", data := .seq vs.toArray } (.lst (ns.map V.int))) else none) (fun b => ?_) (.inl (.inr ⟨{ cls := .type "list", data := .seq vs.toArray }, if_pos rfl⟩)) (fun b u z => ?_) (fun b z => ?_) fun _ => hk
    · by_cases hb : b = a
      · exact .inr ⟨_, _, if_pos hb⟩
      · exact .inl (if_neg hb)
    · by_cases hb : b = a
      · have z' := (if_pos hb).symm.trans z
        cases z'
        subst hb
        exact ⟨ha, by rw [List.length_map]; exact hl, vs, _, rv, ha⟩
      · have z' := (if_neg hb).symm.trans z
        cases z'
    · by_cases hb : b = a
      · exact hb
      · exact absurd (if_neg hb) z
end L2

namespace L2
open PySem PySem.Spec PyProof.Rows

theorem walk_of {l : PySem.W.OpenLaw} {n k : Nat} {q : Program} {loose : List Str} {XP : (Str → Option Value) → Heap → Prop} {YP : World → Heap → Prop} {d : DefRec} {K : Params → PySem.W.Frag} {CX : World → CXT} {sp : World → Sp} {x : Str}
    (hn : l.most = some n) (hn2 : n ≤ sizeLine) (hdf : d.params.defaults = []) (hr : Room k callerA)
    (hY : ∀ (w : World) (h : Heap), YP w h → (K w.params).In h)
    (F : ∀ (w : World) (mg : Str → Option Value) (fa : Addr) (h : Heap), (K w.params).In h → h.Ns mainGlobals mg → mg d.name = some (.ref fa) →
      ∃ fd : FuncData, (∀ (s : Shared) (u : Value), BindsTo s fd ⟨[u], []⟩ [(x, u)]) ∧
        ∀ base : Heap, (K w.params).In base → base.Ns mainGlobals mg → FnOk l.prog w (K w.params) mg base (CX w) k fa fd [x] (sp w))
    (hsp : ∀ (w : World) (H : Hp) (a : Addr) (ns : List Int), ns.length ≤ n → Only H → SqL (K w.params) H a (ns.map V.int) → sp w [.ref a] H (fun v _ => v = .bl true) fun _ _ _ => False)
    (hCX : ∀ (w : World) (H : Hp) (s : Shared) (e : Value) (s' : Shared), CX w [] H s (fun _ _ _ => False) e s' → False) :
    PySem.W.WalkO q loose XP YP l.row.toRowW d [] (fun f vs => PySem.call f vs) := by
  refine Att.attach_call hn hdf fun w s₀ s₁ mg mb fa o pm cd doc a vs ns G Y ho hd hcd hmg hobj hints hlen hg => ?_
  have KX := hY w _ Y
  obtain ⟨fd, hb, hF⟩ := F w mg fa _ KX G.T.g hmg
  exact law_call KX G.T.g G.T.b G.T.builtins G.T.nolimit hg hobj hints (Nat.le_trans hlen hn2) hr hF hb (fun H hO hS => hsp w H a ns hlen hO hS) fun H e s' => hCX w H s₁ e s'
end L2

/- THE LAST THEOREM (shape; LID, My.* are yours):
   My.Adr: a structure of the addresses that your layer names (classes, functions); My.Txt K t: a structure (Prop) of the equations over K;
   My.txt_mk : {K} {implicit addresses ..} (e1 : nsIn K mainGlobals "law" = some (some (.ref f))) (e2 : K.lookup f = some ⟨oc, od, .func (fnOf "law" "law" params body scope dV kV doc pm an cdv ct), sl⟩) (e3 : codeIn K cdv "law" = true) .. : ∃ t, My.Txt K t

theorem PySem.Challenge.cw_LID_holds : PySem.Challenge.rw_LID.Holds := by
  w_on; o_law; k_head; (case hw => w_witness2)
  k_fill
  refine L2.walk_of (l := PySem.Challenge.rw_LID) (n := 63) (k := 40) (x := "script") (CX := fun w => ..) (sp := fun _ => My.sp_law) rfl (by decide) rfl ⟨rfl, by decide, by decide⟩ (fun w h Y => PySem.W.kIn_of Y) ?F ?S ?C
  case F =>
    intro w mg fa h KX G hmg
    have T : ∃ t, My.Txt (L2.KOf KX) t := by
      dsimp only [L2.KOf]                          -- K must stand as «<heap const> w.params» for k_is
      refine' My.txt_mk ?e1 ?e2 ?e3 ..
      (case e1 => PySem.W.k_is)                    -- in the order: a name -> its address -> its object -> its parts
      (case e2 => PySem.W.k_is)
      ..
    obtain ⟨t, T⟩ := T
    have e0 := hmg.symm.trans (PySem.W.mg_of KX G T.law)
    cases e0                                       -- fa is the law's own address
    exact ⟨_, fun s u => .of_eq rfl, fun base kb nb => My.law_fn T kb nb⟩     -- if «.of_eq rfl» comes too early: refine' ⟨_, ?b, fun base kb nb => My.law_fn T kb nb⟩; exact fun s u => .of_eq rfl
  case S => exact fun w H a ns hl hO hS => ..
  case C => exact ..
(the tactic k_is has no namespace: write k_is) -/

namespace L2
open PySem PySem.Spec PyProof.Rows

def inClass (s : Stmt) (j : Nat) : Stmt := match s with
  | .ClassDef _ _ _ body _ _ _ _ _ _ _ => body.getD j (.Pass ⟨0, 0, 0, 0⟩)
  | _ => .Pass ⟨0, 0, 0, 0⟩
def defArgs (s : Stmt) : Arguments := match s with
  | .FunctionDef _ a _ _ _ _ _ _ _ _ => a
  | _ => { posonlyargs := [], args := [], vararg := none, kwonlyargs := [], kw_defaults := [], kwarg := none, defaults := [] }
def defBody (s : Stmt) : List Stmt := match s with
  | .FunctionDef _ _ b _ _ _ _ _ _ _ => b
  | _ => []
def defScope (s : Stmt) : Scope := match s with
  | .FunctionDef _ _ _ _ _ _ sc _ _ _ => sc
  | _ => { kind := .function, names := [], isGenerator := false, isCoroutine := false }

abbrev CX0 : CXT := fun _ _ _ _ _ _ => False
abbrev E0 : XK := fun _ _ _ => False
theorem pass0 {X : Cx} : Passes CX0 X E0 := fun _ _ _ _ _ _ _ h => h.elim

structure Fun (K : PySem.W.Frag) (x qual : Str) (st : Stmt) (f : Addr) (fd : FuncData) : Prop where
  ex : ∃ (oc : Value) (od : Option Addr) (kV doc pm : Value) (an : Option Addr) (cdv ct : Value) (osl : Array (Option Value)),
    fd = PySem.W.fnOf x qual (defArgs st) (defBody st) (defScope st) .none kV doc pm an cdv ct ∧ K.lookup f = some ⟨oc, od, .func fd, osl⟩ ∧ PySem.W.codeIn K cdv qual = true
  kp : PySem.W.keepIn K (.ref f) = true
section
variable {P : Program} {w : World} {K : PySem.W.Frag} {mg : Str → Option Value} {base : Heap}
theorem Fun.ok {x qual : Str} {st : Stmt} {f : Addr} {fd : FuncData} {N ps : List Str} {k : Nat} {sp : Sp} (F : Fun K x qual st f fd) (S : FnScope N ps (defScope st)) (len : ∀ vs H Q E, sp vs H Q E → vs.length = ps.length)
    (hbody : ∀ (cdv : Value) (A : Around) (outer : List Env) (s : Shared) (H : Hp) (vs : List V) (Q : VK) (E : XK), Room k (A.deeper (envOfC qual (defScope st) s.heap.objs.size f cdv)) → sp vs H Q E →
      ∃ t, PSs (cxOf CX0 P w K mg base N qual (defScope st) f cdv A outer s H E).nox (defBody st) t ∧ t { nx := fun _ H' => Q .non H', rt := Q } (start N vs) H) : FnOk P w K mg base CX0 (k + 1) f fd ps sp := by
  obtain ⟨oc, od, kV, doc, pm, an, cdv, ct, osl, rfl, lk, hcd⟩ := F.ex
  refine fn_of lk hcd S len fun A outer s H vs Q E hr hsp => ?_
  obtain ⟨t, h, q⟩ := hbody cdv A outer s H vs Q E hr hsp
  exact ⟨t, h.nox, q⟩
theorem Fun.binds {x qual : Str} {st : Stmt} {f : Addr} {fd : FuncData} {ps : List Str} (F : Fun K x qual st f fd)
    (h : ∀ (kV doc pm : Value) (an : Option Addr) (cdv ct : Value) (us : List Value), us.length = ps.length → bindArgs (PySem.W.fnOf x qual (defArgs st) (defBody st) (defScope st) .none kV doc pm an cdv ct) ⟨us, []⟩ = pure (ps.zip us)) : Binds K fd ps [] := by
  obtain ⟨oc, od, kV, doc, pm, an, cdv, ct, osl, rfl, lk, hcd⟩ := F.ex
  exact .all (h kV doc pm an cdv ct)
theorem fun_mk {x qual : Str} {st : Stmt} {f : Addr} {oc : Value} {od an : Option Addr} {osl : Array (Option Value)} {kV doc pm cdv ct : Value} (l : K.lookup f = some ⟨oc, od, .func (PySem.W.fnOf x qual (defArgs st) (defBody st) (defScope st) .none kV doc pm an cdv ct), osl⟩)
    (c : PySem.W.codeIn K cdv qual = true) (k : PySem.W.keepIn K (.ref f) = true) : Fun K x qual st f (PySem.W.fnOf x qual (defArgs st) (defBody st) (defScope st) .none kV doc pm an cdv ct) := ⟨⟨oc, od, kV, doc, pm, an, cdv, ct, osl, rfl, l, c⟩, k⟩
end
section
variable {X : Cx}
theorem pv (i : Nat) {x : Str} {pos : Pos} (hN : X.N[i]? = some x := by rfl) (hv : Vis X.env.scope x := by first | exact Or.inl rfl | exact Or.inr (Or.inl rfl) | exact Or.inr (Or.inr rfl)) (hd : (x == ("__debug__" : Str)) = false := by decide)
    (hcd : (x == ("__classdict__" : Str)) = false := by decide) : PE X (.Name x pos) (tVar i) := pe_var hN hv hd hcd
end

theorem iteF {A B : Prop} (h : B) : if false = true then A else B := by
  rw [if_neg Bool.false_ne_true]
  exact h
def Same (H H' : Hp) : Prop := ∀ b o, H b = some o → H' b = some o
theorem Same.refl (H : Hp) : Same H H := fun _ _ h => h
theorem Same.trans {H H1 H2 : Hp} (a : Same H H1) (b : Same H1 H2) : Same H H2 := fun c o h => b c o (a c o h)
theorem Same.seq {K : PySem.W.Frag} {H H' : Hp} {a : Addr} {xs : List V} (e : Same H H') (h : SqL K H a xs) : SqL K H' a xs := by
  rcases h with (h | ⟨o, h⟩) | h
  · exact .inl (.inl (e _ _ h))
  · exact .inl (.inr ⟨o, e _ _ h⟩)
  · exact .inr h

end L2

namespace L2
open PySem PySem.Spec PyProof.Rows

section
variable {κ : Type} [DecidableEq κ]
end


section
variable {P : Program} {w : World} {H : Hp} {h : Heap} {a : Addr}
end

section
variable {X : Cx} {pins : List (Addr × Obj)} {σ : St} {H : Hp} {s : Shared} {a : Addr} {y v : V} {u r : Value} {o : Option V} {A : Around} {E : Value → Shared → Prop}

end

section
variable {X : Cx} {pins : List (Addr × Obj)} {σ : St} {H : Hp} {s : Shared} {a : Addr} {kvs : List (Key × V)} {k : Key} {u : Value} {A : Around} {E : Value → Shared → Prop}
end


section
variable {X : Cx} {o i e value : Expr} {pos pos' tpos : Pos} {td ty tv : TE}
end


section
variable {X : Cx} {pos : Pos}
end

section
variable {X : Cx} {pins : List (Addr × Obj)} {σ : St} {H : Hp} {s : Shared} {a : Addr} {y d : V} {u r : Value} {o : Option V} {A : Around} {E : Value → Shared → Prop}
end

section
variable {X : Cx} {o e f : Expr} {apos cpos : Pos} {td ty tx : TE}
end

section
variable {X : Cx} {pins : List (Addr × Obj)} {σ : St} {H : Hp} {s : Shared} {a : Addr} {kvs : List (Key × V)} {A : Around} {E : Value → Shared → Prop}
end


section
variable {X : Cx} {pins : List (Addr × Obj)} {σ : St} {H : Hp} {s : Shared} {a : Addr} {y : V} {u : Value} {A : Around} {E : Value → Shared → Prop}
end
end L2

set_option maxHeartbeats 4000000
namespace Mine
open PySem PySem.Builtin PySem.Builtin.Str

theorem strExt {a b : Str} (h : a.cps.toList = b.cps.toList) : a = b := by
  cases a; cases b
  exact congrArg Str.mk (Array.toList_inj.mp h)
theorem strLen (a : Str) : a.length = a.cps.toList.length := by simp [Str.length]
theorem strApp (a b : Str) : (a ++ b).cps.toList = a.cps.toList ++ b.cps.toList := by
  show (a.cps ++ b.cps).toList = _
  simp
theorem join_nil_codes : ∀ ys : List Str, (Str.join ⟨#[]⟩ ys).cps.toList = (ys.map (·.cps.toList)).flatten
  | [] => by simp [Str.join, Str.empty]
  | [x] => by simp [Str.join]
  | x :: y :: r => by
    have ih := join_nil_codes (y :: r)
    show ((x ++ (⟨#[]⟩ : Str)) ++ Str.join ⟨#[]⟩ (y :: r)).cps.toList = _
    rw [strApp, strApp, ih]
    simp
end Mine

set_option maxHeartbeats 4000000
namespace Mine
open PySem PySem.Builtin PySem.Builtin.Str
def tab8 : List Int := [48271, 1000003, 15485863, 32452843, 49979687, 67867967, 86028121, 104395301]
def tab5 : List Int := [179424673, 373587883, 573259391, 776531401, 982451653]
def pickA (c k many : Int) : Int := Builtin.bitAnd (c / 2 ^ (1 + 10 * k).toNat) 1023 % many
def one1 (c k : Int) : Int := (c / 2 % 2305843009213693951 + 1) * (tab8.getD (k % 8).toNat 0 * tab5.getD (k / 8).toNat 0) % 2305843009213693951
def one2 (c k : Int) : Int := one1 c k * one1 c k % 1000000000039
def pickB (c k many : Int) : Int := (one2 c k + k + 1) * (one2 c k / 10007 + 48271) % 67280421310721 / 31 % many
def pick (c k many : Int) : Int := if c % 2 = 1 ∧ 0 < c / 2 ^ (400 : Int).toNat then pickA c k many else pickB c k many
theorem pick_ge (c k : Int) {m : Int} (h : 0 < m) : 0 ≤ pick c k m := by
  unfold pick; split
  · exact Int.emod_nonneg _ (by omega)
  · exact Int.emod_nonneg _ (by omega)
theorem pick_lt (c k : Int) {m : Int} (h : 0 < m) : pick c k m < m := by
  unfold pick; split
  · exact Int.emod_lt_of_pos _ h
  · exact Int.emod_lt_of_pos _ h
theorem one1_ge (c k : Int) : 0 ≤ one1 c k := Int.emod_nonneg _ (by decide)
theorem one1_lt (c k : Int) : one1 c k < 2305843009213693951 := Int.emod_lt_of_pos _ (by decide)
theorem one2_ge (c k : Int) : 0 ≤ one2 c k := Int.emod_nonneg _ (by decide)
theorem one2_lt (c k : Int) : one2 c k < 1000000000039 := Int.emod_lt_of_pos _ (by decide)
theorem tab8_at {k : Int} (h0 : 0 ≤ k) (h1 : k < 8) : tab8[k.toNat]? = some (tab8.getD k.toNat 0) ∧ 0 < tab8.getD k.toNat 0 ∧ tab8.getD k.toNat 0 < 1000000000 := by
  have : ∀ n : Fin 8, tab8[n.val]? = some (tab8.getD n.val 0) ∧ 0 < tab8.getD n.val 0 ∧ tab8.getD n.val 0 < 1000000000 := by decide
  exact this ⟨k.toNat, by omega⟩
theorem tab5_at {k : Int} (h0 : 0 ≤ k) (h1 : k < 5) : tab5[k.toNat]? = some (tab5.getD k.toNat 0) ∧ 0 < tab5.getD k.toNat 0 ∧ tab5.getD k.toNat 0 < 1000000000 := by
  have : ∀ n : Fin 5, tab5[n.val]? = some (tab5.getD n.val 0) ∧ 0 < tab5.getD n.val 0 ∧ tab5.getD n.val 0 < 1000000000 := by decide
  exact this ⟨k.toNat, by omega⟩
theorem mul_small {a b : Int} (ha : 0 < a) (ha' : a < 1000000000) (hb : 0 < b) (hb' : b < 1000000000) : 0 < a * b ∧ a * b < 1000000000000000000 := by
  have h1 := Int.mul_pos ha hb
  have h2 : a * b ≤ 1000000000 * b := Int.mul_le_mul_of_nonneg_right (by omega) (by omega)
  exact ⟨h1, by omega⟩
def cell (ns : List Int) (k : Int) : Int := if k < (ns.length : Int) then Builtin.bitAnd (ns.getD k.toNat 0) (1 * 2 ^ (16000 : Int).toNat - 1) else 0
def subA (c j : Int) : Int := Builtin.bitOr (c / 2 ^ (480 * j).toNat) 1
def subB (c j : Int) : Int := (c / 2 / (j + 1) + 104729 * j) * 2
def sub (c j : Int) : Int := if c % 2 = 1 ∧ 0 < c / 2 ^ (480 * j + 400).toNat then subA c j else subB c j
def number (c far : Int) : Int := if c % 2 = 1 ∧ 0 < c / 2 ^ (400 : Int).toNat then c / 2 ^ (400 : Int).toNat % far else c / 2 % far
def letter (c j : Int) : Nat := 97 + (pick c (31 + j) 26).toNat
def nameLen (c : Int) : Nat := (1 + pick c 30 8).toNat
def nameCodes (c : Int) : List Nat := (List.range (nameLen c)).map fun (j : Nat) => letter c (j : Int)
def name (c : Int) : Str := ⟨(nameCodes c).toArray⟩
theorem nameLen_le (c : Int) : nameLen c ≤ 8 := by unfold nameLen; have := pick_lt c 30 (m := 8) (by decide); omega
theorem name_length (c : Int) : (name c).length = nameLen c := by simp [name, nameCodes, Str.length]
def letters : Str := "abcdefghijklmnopqrstuvwxyz"
theorem letters_at {k : Int} (h0 : 0 ≤ k) (h1 : k < 26) : letters.cps.toList[k.toNat]? = some (97 + k.toNat) := by
  have : ∀ n : Fin 26, letters.cps.toList[n.val]? = some (97 + n.val) := by decide +kernel
  exact this ⟨k.toNat, by omega⟩
theorem join_letters (c : Int) (n : Nat) : Txt.join (⟨#[]⟩ : Str) ((List.range n).map fun (j : Nat) => (⟨#[letter c (j : Int)]⟩ : Str)) = ⟨((List.range n).map fun (j : Nat) => letter c (j : Int)).toArray⟩ := by
  show glued _ _ = _
  rw [StrLaws.glued_eq_join]
  apply strExt
  rw [join_nil_codes, List.map_map]
  have : ∀ l : List Nat, (l.map ((fun x : Str => x.cps.toList) ∘ fun (j : Nat) => (⟨#[letter c (j : Int)]⟩ : Str))).flatten = l.map fun (j : Nat) => letter c (j : Int) := by
    intro l
    induction l with
    | nil => rfl
    | cons a r ih => simp only [List.map_cons, List.flatten_cons, ih] <;> rfl
  rw [this]
theorem empty_eq : (("" : Str)) = ⟨#[]⟩ := by decide +kernel
theorem sum_le {ys : List Str} {n : Nat} (h : ∀ y ∈ ys, y.length ≤ n) : (ys.map (·.length)).sum ≤ ys.length * n := by
  induction ys with
  | nil => simp
  | cons y r ih =>
    have h1 := h y List.mem_cons_self
    have h2 := ih fun z hz => h z (List.mem_cons_of_mem _ hz)
    simp only [List.map_cons, List.sum_cons, List.length_cons, Nat.add_mul, Nat.one_mul]
    omega
end Mine

set_option maxHeartbeats 4000000
namespace L2
open PySem PySem.Spec PyProof.Rows

section
variable {X : Cx}
def rInst (K : PySem.W.Frag) : List V → Hp → VK → Prop := fun xs H Q => ∃ x t n b, xs = [x, .ty n] ∧ TyOf K H x t ∧ PySem.W.kitOne K t (.type n) = some b ∧ Q (.bl b) H
theorem call_inst : CallR X (.builtin "isinstance") (rInst X.K) := by
  intro pins s σ H xs us Q I r h
  obtain ⟨x, t, n, b, rfl, ty, e, q⟩ := h
  obtain ⟨u, u2, rfl, rx, ry⟩ := vals2 r
  cases (show u2 = Value.type n from ry)
  exact isinst_ok I rx ty e fun tk => ⟨.bl b, H, I.tok tk, rfl, q⟩
theorem kit_same {K : PySem.W.Frag} {n : String} : PySem.W.kitOne K (.type n) (.type n) = some true := by
  unfold PySem.W.kitOne
  rw [if_pos (by simp)]

theorem strs_of {ys : List Str} : ∀ {us : List Value}, Vals (ys.map V.str) us → StrsAre us ys := by
  induction ys with
  | nil => intro us r; rw [List.map_nil] at r; cases r; exact .nil
  | cons y ys ih =>
    intro us r
    rw [List.map_cons] at r
    cases r with
    | cons r1 r2 =>
      obtain ⟨t, e⟩ := r1
      subst e
      exact .cons y t (ih r2)
def rJoin (K : PySem.W.Frag) : V → List V → Hp → VK → Prop := fun x vs H Q => ∃ sep p ys, x = .str sep ∧ vs = [.ref p] ∧ (SqL K H p (ys.map V.str) ∨ SqT K H p (ys.map V.str)) ∧
  (ys.map (·.length)).sum + ys.length * sep.length ≤ 16777216 ∧ Q (.str (Txt.join sep ys)) H
theorem mt_join : MtR X "str.join" (rJoin X.K) := by
  intro pins s σ H x vs v us Q I rx rv h
  obtain ⟨sep, p, ys, rfl, rfl, hq, hz, q⟩ := h
  obtain ⟨t, rfl⟩ := rx
  obtain ⟨u, rfl, ru⟩ := vals1 rv
  cases (show u = Value.ref p from ru)
  rcases hq with hq | hq
  · obtain ⟨its, r, pl, _⟩ := I.list hq
    exact join_list pl.isList (by simpa using strs_of r) hz fun t' k => ⟨.str _, H, I.tok k, ⟨t', rfl⟩, q⟩
  · obtain ⟨its, r, pl, _⟩ := I.tuple hq
    exact join_tuple pl (by simpa using strs_of r) hz fun t' k => ⟨.str _, H, I.tok k, ⟨t', rfl⟩, q⟩
end
end L2

set_option maxHeartbeats 4000000
namespace L2
open PySem PySem.Spec PyProof.Rows

theorem clos_go {env : Env} : ∀ (ns : List (Str × NameKind)) (acc : List (Str × Addr)), (∀ y ∈ ns, y.2 = .free → ∃ c, env.cells.lookup y.1 = some c) → (∀ p ∈ acc, env.cells.lookup p.1 = some p.2) →
    ∃ cl : List (Str × Addr), (forIn ns acc fun (y : Str × NameKind) (cs : List (Str × Addr)) => (match y with
      | (name, kind) => if (kind == NameKind.free) = true then (do let c ← cellOf env name; pure (ForInStep.yield ((name, c) :: cs))) else pure (ForInStep.yield cs) : Sem (ForInStep (List (Str × Addr))))) = pure cl ∧
      (∀ p ∈ cl, env.cells.lookup p.1 = some p.2) ∧ (∀ p ∈ acc, p ∈ cl) ∧ ∀ y ∈ ns, y.2 = .free → ∃ c, (y.1, c) ∈ cl
  | [], acc, _, ha => ⟨acc, rfl, ha, fun _ h => h, fun _ h => nomatch h⟩
  | (n, k) :: r, acc, hn, ha => by
    have hr : ∀ y ∈ r, y.2 = .free → ∃ c, env.cells.lookup y.1 = some c := fun y hy => hn y (List.mem_cons_of_mem _ hy)
    by_cases hk : k = NameKind.free
    · subst hk
      obtain ⟨c, hc⟩ := hn (n, .free) List.mem_cons_self rfl
      have hc' : env.cells.lookup n = some c := hc
      obtain ⟨cl, e, h1, h2, h3⟩ := clos_go r ((n, c) :: acc) hr (fun p hp => by
        rcases List.mem_cons.mp hp with rfl | hp
        · exact hc'
        · exact ha p hp)
      refine ⟨cl, ?_, h1, fun p hp => h2 p (List.mem_cons_of_mem _ hp), fun y hy hf => ?_⟩
      · rw [List.forIn_cons]
        have e1 : cellOf env n = pure c := by unfold cellOf; rw [hc']
        simp only [beq_self_eq_true, if_true, e1, pure_bind]
        exact e
      · rcases List.mem_cons.mp hy with rfl | hy
        · exact ⟨c, h2 _ List.mem_cons_self⟩
        · exact h3 y hy hf
    · obtain ⟨cl, e, h1, h2, h3⟩ := clos_go r acc hr ha
      refine ⟨cl, ?_, h1, h2, fun y hy hf => ?_⟩
      · rw [List.forIn_cons]
        have hb : (k == NameKind.free) = false := by simpa using hk
        simp only [hb, Bool.false_eq_true, if_false, pure_bind]
        exact e
      · rcases List.mem_cons.mp hy with rfl | hy
        · exact absurd hf hk
        · exact h3 y hy hf
theorem look_some {α : Type} : ∀ {l : List (Str × α)} {x : Str} {c : α}, (x, c) ∈ l → ∃ d, l.lookup x = some d
  | [], _, _, h => nomatch h
  | (y, d) :: r, x, c, h => by
    by_cases e : x = y
    · subst e; exact ⟨d, by simp [List.lookup_cons]⟩
    · have hb : (x == y) = false := by simpa using e
      rcases List.mem_cons.mp h with z | z
      · cases z; exact absurd rfl e
      · obtain ⟨d', h'⟩ := look_some z
        exact ⟨d', by simp only [List.lookup_cons, hb]; exact h'⟩
theorem clos_ok {scope : Scope} {env : Env} (h : ∀ y ∈ scope.names, y.2 = .free → ∃ c, env.cells.lookup y.1 = some c) :
    ∃ cl : List (Str × Addr), closureFor scope env = pure cl ∧ (∀ x c, cl.lookup x = some c → env.cells.lookup x = some c) ∧ ∀ x, (x, NameKind.free) ∈ scope.names → ∃ c, cl.lookup x = some c := by
  obtain ⟨cl, e, h1, _, h3⟩ := clos_go (env := env) scope.names [] h (fun p hp => nomatch hp)
  refine ⟨cl, ?_, fun x c q => h1 (x, c) (PySem.mem_of_lookup q), fun x hx => ?_⟩
  · simp only [closureFor]
    simp only [bind_pure]
    exact e
  · obtain ⟨c, hc⟩ := h3 (x, .free) hx rfl
    exact look_some hc

def ixOk (osc sc : Scope) (oN : List Str) : List (Option Nat) → List Str → Bool
  | [], [] => true
  | none :: r, _ :: n => ixOk osc sc oN r n
  | some k :: r, x :: n => (oN[k]? == some x) && (sc.names.lookup x == some .free) && ixOk osc sc oN r n
  | _, _ => false
theorem ixOk_len {osc sc : Scope} {oN : List Str} : ∀ {ix : List (Option Nat)} {N : List Str}, ixOk osc sc oN ix N = true → ix.length = N.length
  | [], [], _ => rfl
  | none :: _, _ :: _, h => congrArg (· + 1) (ixOk_len (by simpa [ixOk] using h))
  | some _ :: _, _ :: _, h => congrArg (· + 1) (ixOk_len (by simp [ixOk] at h; exact h.2))
  | [], _ :: _, h => by simp [ixOk] at h
  | none :: _, [], h => by simp [ixOk] at h
  | some _ :: _, [], h => by simp [ixOk] at h
theorem ixOk_at {osc sc : Scope} {oN : List Str} : ∀ {ix : List (Option Nat)} {N : List Str} (i k : Nat), ixOk osc sc oN ix N = true → ix[i]? = some (some k) → ∃ x, N[i]? = some x ∧ oN[k]? = some x ∧ sc.names.lookup x = some .free
  | [], _, _, _, _, e => by simp at e
  | none :: _, [], _, _, h, _ => by simp [ixOk] at h
  | some _ :: _, [], _, _, h, _ => by simp [ixOk] at h
  | none :: r, x :: n, 0, _, _, e => by simp at e
  | none :: r, x :: n, i + 1, k, h, e => by
    obtain ⟨y, h1, h2⟩ := ixOk_at (ix := r) (N := n) i k (by simpa [ixOk] using h) (by simpa using e)
    exact ⟨y, by simpa using h1, h2⟩
  | some j :: r, x :: n, 0, k, h, e => by
    simp [ixOk] at h
    simp at e
    subst e
    exact ⟨x, by simp, h.1.1, h.1.2⟩
  | some j :: r, x :: n, i + 1, k, h, e => by
    simp [ixOk] at h
    obtain ⟨y, h1, h2⟩ := ixOk_at (ix := r) (N := n) i k h.2 (by simpa using e)
    exact ⟨y, by simpa using h1, h2⟩
def blkOk (osc : Scope) (oN N : List Str) (ix : List (Option Nat)) (sc : Scope) : Bool :=
  (sc.kind == .function) && sc.names.all (fun y => (y.2 != .cell) && ((y.2 != .local) || (sc.names.lookup y.1 == some .local)) && ((y.2 != .free) || ((osc.names.lookup y.1 == some .cell) || (osc.names.lookup y.1 == some .free)))) && ixOk osc sc oN ix N
theorem relab_free {env : Env} : ∀ {names : List (Str × NameKind)} {x : Str}, names.lookup x = some .free →
    (names.map fun (n, k) => if (k == NameKind.free && env.scope.kind == .function && env.kindOf n == some .cell) then (n, NameKind.cell) else (n, k)).lookup x = some .cell ∨
    (names.map fun (n, k) => if (k == NameKind.free && env.scope.kind == .function && env.kindOf n == some .cell) then (n, NameKind.cell) else (n, k)).lookup x = some .free
  | [], _, h => by simp at h
  | (n, k) :: r, x, h => by
    have ih := @relab_free env r x
    simp only [List.map_cons]
    cases hx : x == n with
    | true =>
      simp only [List.lookup_cons, hx] at h
      cases h
      by_cases hc : (NameKind.free == NameKind.free && env.scope.kind == .function && env.kindOf n == some .cell) = true
      · left; rw [if_pos hc]; simp only [List.lookup_cons, hx]
      · right; rw [if_neg hc]; simp only [List.lookup_cons, hx]
    | false =>
      simp only [List.lookup_cons, hx] at h
      by_cases hc : (k == NameKind.free && env.scope.kind == .function && env.kindOf n == some .cell) = true
      · rw [if_pos hc]; simp only [List.lookup_cons, hx]; exact ih h
      · rw [if_neg hc]; simp only [List.lookup_cons, hx]; exact ih h
theorem relab_back {env : Env} : ∀ {names : List (Str × NameKind)} {x : Str}, (∀ y ∈ names, y.2 ≠ NameKind.cell) →
    ((names.map fun (n, k) => if (k == NameKind.free && env.scope.kind == .function && env.kindOf n == some .cell) then (n, NameKind.cell) else (n, k)).lookup x = some .cell ∨
    (names.map fun (n, k) => if (k == NameKind.free && env.scope.kind == .function && env.kindOf n == some .cell) then (n, NameKind.cell) else (n, k)).lookup x = some .free) → (x, NameKind.free) ∈ names
  | [], _, _, h => by simp at h
  | (n, k) :: r, x, hn, h => by
    have ih := @relab_back env r x fun y hy => hn y (List.mem_cons_of_mem _ hy)
    simp only [List.map_cons] at h
    by_cases hc : (k == NameKind.free && env.scope.kind == .function && env.kindOf n == some .cell) = true
    · rw [if_pos hc] at h
      cases hx : x == n with
      | true =>
        have e : x = n := by simpa using hx
        have e2 : k = NameKind.free := by simp at hc; exact hc.1.1
        subst e; subst e2
        exact List.mem_cons_self
      | false =>
        simp only [List.lookup_cons, hx] at h
        exact List.mem_cons_of_mem _ (ih h)
    · rw [if_neg hc] at h
      cases hx : x == n with
      | true =>
        have e : x = n := by simpa using hx
        subst e
        simp only [List.lookup_cons, hx] at h
        rcases h with h | h
        · cases h; exact absurd rfl (hn (x, .cell) List.mem_cons_self)
        · cases h; exact List.mem_cons_self
      | false =>
        simp only [List.lookup_cons, hx] at h
        exact List.mem_cons_of_mem _ (ih h)

def blk (X : Cx) (N : List Str) (sc : Scope) (cl : List (Str × Addr)) (C : Addr) (fp : List Addr) (s : Shared) (H : Hp) : Cx :=
  { X with N := N, s₀ := s, H₀ := H, env := compEnvC sc cl C X.env, outer := X.stack, ex := fp, fn := fun _ => false, pn := [], xe := fun _ _ => False }
def lift (ix : List (Option Nat)) (σ : St) : St := ix.map fun o => o.bind fun k => (σ[k]?).bind id
def PF (X : Cx) (ifs : List Expr) (t : TT) : Prop :=
  ∀ (pins : List (Addr × Obj)) (s : Shared) (σ : St) (H : Hp) (Q : Bool → Hp → Prop), Inv X pins σ H s → t σ H Q →
    wpAny (model X.prog X.w) X.A (forIn ifs true fun c r => if r = true then do let ok ← isTrue c X.env (eval c X.env); pure (ForInStep.yield ok) else pure (ForInStep.yield r)) (TP X pins σ Q) X.xe s
def tYes : TT := fun _ H Q => Q true H
theorem pf_nil {X : Cx} : PF X [] tYes := fun pins s σ H Q I h => wpAny_tests_nil ⟨H, I, h⟩
def CompW (g : TG) (tf : TT) (te : TE) (J : It) (σ0 : St) (H1 : Hp) (Fin : List V → Hp → Prop) : Prop :=
  ∃ W : Nat → Nat → St → List V → Hp → Prop, (∃ m, W 0 m σ0 [] H1) ∧ ∀ i m τ ys H, W i m τ ys H →
    (J.stop i H ∧ Fin ys H) ∨ (J.go i H ∧ ∀ x H', J.yld i H x H' → g x τ H' fun τ2 H2 => tf τ2 H2 fun b H3 =>
      if b = true then te τ2 H3 fun y H4 => ys.length < sizeLine ∧ ∃ m', m' < m ∧ W (i + 1) m' τ2 (ys ++ [y]) H4 else ∃ m', m' < m ∧ W (i + 1) m' τ2 ys H3)
def tComp (ix : List (Option Nat)) (wi : TI) (g : TG) (tf : TT) (te : TE) : TE := fun σ H Q => wi σ H fun J H1 => CompW g tf te J (lift ix σ) H1 fun ys H' => ∀ p, H' p = none → Q (.ref p) (upd H' p (.lst ys))

theorem cloop {P : Program} {w : World} {A : Around} {R : Result → Shared → Prop} {s : Shared} {el tg src : Expr} {fs : List Expr} {sc : Scope} {ps : Pos} {iv ac : Value} {en : Env} (J : Nat → Shared → Prop)
    (turn : ∀ n s, J n s → wpAny (model P w) A (pyNext iv) (fun r s1 => match r with
      | none => R (.ok .next) s1
      | some v => wpAny (model P w) A (letOwnedTupleGo tg iv v) (fun _ s2 => wpAny (model P w) A (assign tg en v) (fun _ s3 =>
          wpAny (model P w) A (forIn fs true fun c r => if r = true then do let ok ← isTrue c en (eval c en); pure (ForInStep.yield ok) else pure (ForInStep.yield r)) (fun ok s4 =>
            if ok = true then wpAny (model P w) A (eval el en) (fun x s5 => wpAny (model P w) A (call (.builtin "list.append") [ac, x]) (fun _ s6 => ∃ m, m < n ∧ J m s6) (fun _ _ => False) s5) (fun _ _ => False) s4
            else ∃ m, m < n ∧ J m s4) (fun _ _ => False) s3) (fun _ _ => False) s2) (fun _ _ => False) s1) (fun _ _ => False) s)
    (n : Nat) (h : J n s) : codeAny (model P w) A (.compLoop (.ListComp el [⟨tg, src, fs, 0⟩] sc ps) 0 iv ac en) R s := by
  have ab : ∀ {α : Type} {t : Sem α} {Q Q' : α → Shared → Prop} {E : Value → Shared → Prop} {s : Shared}, wpAny (model P w) A t Q (fun _ _ => False) s → (∀ a s, Q a s → Q' a s) → wpAny (model P w) A t Q' E s :=
    fun h hq => wpAny_mono h hq fun _ _ f => f.elim
  refine codeAny_loop rfl J (fun n s hJ => ?_) n h
  show wpAny _ A ((compTurn (.ListComp el [⟨tg, src, fs, 0⟩] sc ps) 0 iv ac en).onRaise (fun x => do noteFrame x en; theTreesLotGoes x)) _ _ s
  refine wpAny_noted ?_
  rw [compTurn_list]
  refine wpAny_bind (wpAny_standAt (wpAny_bind (ab (turn n s hJ) fun r s1 h1 => ?_)))
  cases r with
  | none => exact wpAny_pure h1
  | some v =>
    refine wpAny_bind (ab h1 fun _ s2 h2 => wpAny_bind (ab h2 fun _ s3 h3 => wpAny_bind (ab h3 fun ok s4 h4 => ?_)))
    cases ok with
    | false => exact wpAny_pure ⟨rfl, h4⟩
    | true => exact wpAny_bind (wpAny_bind (ab h4 fun x s5 h5 => wpAny_bind (ab h5 fun _ s6 h6 => wpAny_pure (wpAny_pure ⟨rfl, h6⟩))))

section
variable {X : Cx} {pins : List (Addr × Obj)} {σ : St} {H2 : Hp} {s2 : Shared} {N : List Str} {ix : List (Option Nat)} {sc : Scope} {cl : List (Str × Addr)}
theorem blk_ok (I : Inv X pins σ H2 s2) (hb : blkOk X.env.scope X.N N ix sc = true) (c1 : ∀ x c, cl.lookup x = some c → X.env.cells.lookup x = some c) (c2 : ∀ x, (x, NameKind.free) ∈ sc.names → ∃ c, cl.lookup x = some c)
    {fp : List Addr} (hf : ∀ b ∈ fp, FpOk X pins H2 b) (hfo : ∀ b ∈ fp, ∃ o, s2.heap.get? b = some o) {C : Addr} (hC : s2.heap.objs.size ≤ C) : (blk X N sc cl C fp s2 H2).Ok := by
  unfold blkOk at hb
  simp only [Bool.and_eq_true] at hb
  obtain ⟨⟨hk, hn⟩, hi⟩ := hb
  have nocell : ∀ y ∈ sc.names, y.2 ≠ NameKind.cell := fun y hy => by
    have := List.all_eq_true.mp hn y hy
    simp only [Bool.and_eq_true] at this
    simpa using this.1.1
  refine ⟨I.ok.mod, ?_, I.ok.glob, I.ok.blt, hC, fun x y c h1 h2 => I.ok.inj x y c (c1 x c h1) (c1 y c h2), fun x hx => ?_, fun x c hx => ?_, I.ok.hd, I.ok.frames, .inl rfl, fun b hb => ⟨?_, fun x c h => ?_⟩, I.bs, Nat.le_trans I.ok.bsz I.sz, fun b o e hb => ?_, fun b hb hs => ?_, I.stack, I.stkFree⟩
  · show (relabel sc X.env).kind = .function
    exact eq_of_beq hk
  · exact c2 x (relab_back nocell hx)
  · cases hx
  · show b ≠ C
    obtain ⟨o, e⟩ := hfo b hb
    exact Nat.ne_of_lt (Nat.lt_of_lt_of_le (Heap.lt_size e) hC)
  · obtain ⟨_, _, _, _, h5, _⟩ := hf b hb
    exact h5 x c (c1 x c h)
  · obtain ⟨_, _, _, h4, _, _⟩ := hf b hb
    rcases h4 with h4 | h4
    · exact I.ok.noex b o e h4
    · exact absurd (Nat.lt_of_lt_of_le (Heap.lt_size (I.ok.bs b o e).1) h4) (Nat.lt_irrefl _)
  · obtain ⟨_, h2, h3, _⟩ := hf b hb
    rcases List.mem_cons.mp (I.stkSub b hs) with z | z
    · exact h2 z
    · exact h3 z
theorem Un.grow {fs ex : List Addr} {H H' : Hp} {h h' : Heap} {D : Addr} {o : HO} (u : Un fs ex H H' h h') (hD : h.objs.size ≤ D) (hn : H D = none) : Un fs ex H (upd H' D o) h h' := by
  have lt : ∀ {b : Addr} {ob : Obj}, h.get? b = some ob → b ≠ D := fun e z => by
    subst z; exact absurd (Nat.lt_of_lt_of_le (Heap.lt_size e) hD) (Nat.lt_irrefl _)
  refine ⟨u.keep, u.slot, fun b ob e n hx => by rw [upd_ne (lt e)]; exact u.free b ob e n hx, u.there, fun b xs e => ?_, fun b ob v e => ?_, fun b ps e => ?_⟩
  · rw [upd_ne (ne_of_none e hn)]; exact u.tups b xs e
  · rw [upd_ne (ne_of_none e hn)]; exact u.frzs b ob v e
  · obtain ⟨m, q⟩ := u.tbls b ps e
    exact ⟨m, by rw [upd_ne (ne_of_none e hn)]; exact q⟩
theorem HOk.grow {P : Program} {w : World} {H : Hp} {h : Heap} {D : Addr} {o : HO} (x : HOk P w H h) (hn : H D = none) (new : ObjOk P w (upd H D o) h D o) : HOk P w (upd H D o) h := fun b u e => by
  by_cases hb : b = D
  · subst hb; rw [upd_same] at e; cases e; exact new
  · rw [upd_ne hb] at e
    exact (x b u e).stay (fun _ _ _ q => q) (fun c q => by rw [upd_ne (ne_of_none q hn)]; exact q) fun c xs q => by rw [upd_ne (ne_of_none q hn)]; exact q

theorem lift_at {ix : List (Option Nat)} {σ : St} {i : Nat} {v : V} (h : (lift ix σ)[i]? = some (some v)) : ∃ k, ix[i]? = some (some k) ∧ σ[k]? = some (some v) := by
  unfold lift at h
  rw [List.getElem?_map] at h
  cases e : ix[i]? with
  | none => rw [e] at h; cases h
  | some o =>
    rw [e] at h
    cases o with
    | none => simp at h
    | some k =>
      refine ⟨k, rfl, ?_⟩
      simp only [Option.map_some, Option.bind_some, Option.some.injEq] at h
      cases q : σ[k]? with
      | none => rw [q] at h; cases h
      | some z => rw [q] at h; have h' : z = some v := h; rw [h']

theorem comp_core {el tg src : Expr} {ifs : List Expr} {pos : Pos} {g : TG} {tf : TT} {te : TE} {J : It} {fp : List Addr} {it : Addr} {tn : Nat → Heap → Prop} {E : Value → Shared → Prop} {Fin : List V → Hp → Prop} {RR : Value → Addr → Result → Shared → Prop}
    (I : Inv X pins σ H2 s2) (hc : X.calm = true) (hb : blkOk X.env.scope X.N N ix sc = true) (c1 : ∀ x c, cl.lookup x = some c → X.env.cells.lookup x = some c) (c2 : ∀ x, (x, NameKind.free) ∈ sc.names → ∃ c, cl.lookup x = some c)
    (T : Turn X.prog X.w X.K tg J fp it tn) (st : tn 0 s2.heap) (hf : ∀ b ∈ fp, FpOk X pins H2 b)
    (hg : ∀ C fp, PG (blk X N sc cl C fp s2 H2) tg g) (hfs : ∀ C fp, PF (blk X N sc cl C fp s2 H2) ifs tf) (he : ∀ C fp, PE (blk X N sc cl C fp s2 H2) el te)
    (hW : CompW g tf te J (lift ix σ) H2 Fin)
    (hRR : ∀ D C s' ys H', H' D = none → (∃ m, s'.heap.Ns C m) → Inv X pins σ (upd H' D (.lst ys)) s' → FpOk X pins (upd H' D (.lst ys)) C → Fin ys H' → RR (.ref D) C (.ok .next) s') :
    wpAny (model X.prog X.w) X.A (newList []) (fun acc s3 => wpAny (model X.prog X.w) X.A (newFunctionEnv sc X.env.globals cl [] X.env.qual none .none (some X.env)) (fun cenv s4 =>
      codeAny (model X.prog X.w) X.A (.compStart (.ListComp el [⟨tg, src, ifs, 0⟩] sc pos) 0 (.ref it) acc { cenv with scope := relabel sc X.env }) (RR acc cenv.locals) s4) E s3) E s2 := by
  obtain ⟨W, ⟨m0, w0⟩, turn⟩ := hW
  have hb' := hb
  unfold blkOk at hb'
  simp only [Bool.and_eq_true] at hb'
  obtain ⟨⟨hk, hn⟩, hi⟩ := hb'
  have nocell : ∀ y ∈ sc.names, y.2 ≠ NameKind.cell := fun y hy => by
    have := List.all_eq_true.mp hn y hy
    simp only [Bool.and_eq_true] at this
    simpa using this.1.1
  have hkind : sc.kind = .function := eq_of_beq hk
  refine wpAny_newObj_type (wpAny_newFunctionEnv nocell (by intro y hy; simp at hy) (fun h1 hns hsb => ?_) hkind)
  dsimp only at hns hsb ⊢
  generalize hP : s2.heap.push { cls := .type "list", dict := none, data := .seq ([] : List Value).toArray } = P2 at hns hsb ⊢
  have hC : P2.objs.size = s2.heap.objs.size + 1 := by rw [← hP, Heap.size_push]
  have hDC : s2.heap.objs.size ≠ P2.objs.size := by rw [hC]; exact Nat.ne_of_lt (Nat.lt_succ_self _)
  have hCle : s2.heap.objs.size ≤ P2.objs.size := by rw [hC]; omega
  have fpo : ∀ b ∈ fp, ∃ o, s2.heap.get? b = some o := fun b hb => let ⟨o, e, _⟩ := T.obj _ _ st b hb; ⟨o, e⟩
  have old : ∀ b o, s2.heap.get? b = some o → h1.get? b = some o := fun b o e => by
    refine (hsb.2 b ?_).trans (Heap.get?_push_of_some _ (hP ▸ Heap.get?_push_of_some _ e))
    rw [hC]; exact Nat.ne_of_lt (Nat.lt_succ_of_lt (Heap.lt_size e))
  have hacc : h1.get? s2.heap.objs.size = some { cls := .type "list", dict := none, data := .seq ([] : List Value).toArray } :=
    (hsb.2 _ hDC).trans (Heap.get?_push_of_some _ (hP ▸ Heap.get?_push_size _ rfl))
  have bok : (blk X N sc cl P2.objs.size fp s2 H2).Ok := blk_ok I hb c1 c2 hf fpo hCle
  have frD : ∀ {b : Addr}, s2.heap.objs.size ≤ b → b ∉ frs X.stack := fun hb hz => by
    rcases List.mem_cons.mp (I.stkSub _ hz) with z | z
    · exact absurd (z ▸ hb) (Nat.not_le.mpr I.lt)
    · exact I.nofs hb z
  have cellD : ∀ x c, cl.lookup x = some c → c < s2.heap.objs.size := fun x c e => by
    obtain ⟨v, q⟩ := I.cell x c (c1 x c e)
    exact q.lt
  -- the start
  have I0 : Inv (blk X N sc cl P2.objs.size fp s2 H2) [(s2.heap.objs.size, { cls := .type "list", dict := none, data := .seq ([] : List Value).toArray })] (lift ix σ) H2 { s2 with heap := h1, toks := s2.toks + ([] : List (Str × Value)).length } := by
    refine ⟨bok, rfl, I.bare, Un.kept old, ⟨_, hns, fun i x v e1 e2 e3 => ?_⟩, fun x c e => ?_, I.hok.fresh hCle, fun x c e => I.freeC x c (c1 x c e), fun p hp => ?_, I.hok.kept old, ?_⟩
    · obtain ⟨k, q1, q2⟩ := lift_at e2
      obtain ⟨y, z1, z2, z3⟩ := ixOk_at i k hi q1
      have e1' : N[i]? = some x := e1
      rw [e1'] at z1
      cases z1
      have hin : (x, NameKind.free) ∈ sc.names := PySem.mem_of_lookup z3
      obtain ⟨c, hcl⟩ := c2 x hin
      have okind : X.env.scope.names.lookup x = some .cell ∨ X.env.scope.names.lookup x = some .free := by
        have := List.all_eq_true.mp hn _ hin
        simp only [Bool.and_eq_true] at this
        simpa using this.2
      obtain ⟨m, hm, hl⟩ := I.loc
      obtain ⟨u, r, l⟩ := hl k x v z2 q2 (by rcases okind with z | z; exact .inr (.inl z); exact .inr (.inr z))
      refine ⟨u, r, .inr ⟨relab_free z3, c, hcl, ?_⟩⟩
      rcases l with ⟨lk, _⟩ | ⟨_, c', hc', z⟩
      · have lk' : X.env.scope.names.lookup x = some .local := lk
        rcases okind with q | q <;> rw [q] at lk' <;> cases lk'
      · rw [c1 x c hcl] at hc'
        cases hc'
        obtain ⟨oc, ho, hd⟩ := z
        exact ⟨oc, old _ _ ho, hd⟩
    · obtain ⟨v, oc, ho, hd⟩ := I.cell x c (c1 x c e)
      exact ⟨v, oc, old _ _ ho, hd⟩
    · have hp' : p = (s2.heap.objs.size, { cls := .type "list", dict := none, data := .seq ([] : List Value).toArray }) := by
        rcases List.mem_append.mp hp with z | z
        · exact absurd (show p ∈ ([] : List (Addr × Obj)) from z) (by simp)
        · simpa using z
      subst hp'
      exact ⟨hacc, I.fresh, hDC, frD (Nat.le_refl _), fun v z => by cases z⟩
    · show (lift ix σ).length = N.length
      unfold lift
      rw [List.length_map]
      exact ixOk_len hi
  have stat : ∀ {o : Obj} {H' : Hp}, (∀ b ∈ fp, H' b = none) → ∀ b ∈ fp, FpOk (blk X N sc cl P2.objs.size fp s2 H2) [(s2.heap.objs.size, o)] H' b := fun {o H'} hz b hb => by
    obtain ⟨_, g2, g3, g4, g5, g6⟩ := hf b hb
    obtain ⟨ob, eb⟩ := fpo b hb
    have lb := Heap.lt_size eb
    refine ⟨hz b hb, ?_, ?_, .inl hb, fun x c e => g5 x c (c1 x c e), fun p hp => ?_⟩
    · show b ≠ P2.objs.size
      rw [hC]; exact Nat.ne_of_lt (Nat.lt_succ_of_lt lb)
    · intro hz
      rcases List.mem_cons.mp (I.stkSub b hz) with z | z
      · exact g2 z
      · exact g3 z
    · have hp' : p = (s2.heap.objs.size, o) := by
        rcases List.mem_append.mp hp with z | z
        · exact absurd (show p ∈ ([] : List (Addr × Obj)) from z) (by simp)
        · simpa using z
      subst hp'
      show s2.heap.objs.size ≠ b
      exact Nat.ne_of_gt lb
  -- the loop
  have loop : ∀ s4 : Shared, s4 = { s2 with heap := h1, toks := s2.toks + ([] : List (Str × Value)).length } →
      codeAny (model X.prog X.w) X.A (.compLoop (.ListComp el [⟨tg, src, ifs, 0⟩] sc pos) 0 (.ref it) (.ref s2.heap.objs.size) (compEnvC sc cl P2.objs.size X.env)) (RR (.ref s2.heap.objs.size) P2.objs.size) s4 := by
    rintro s4 rfl
    refine cloop (fun n s' => ∃ (i : Nat) (τ : St) (ys : List V) (its : List Value) (k : Nat) (H' : Hp), Vals ys its ∧ ys.length ≤ sizeLine ∧
        Inv (blk X N sc cl P2.objs.size fp s2 H2) [(s2.heap.objs.size, { cls := .type "list", data := .seq its.toArray k })] τ H' s' ∧ tn i s'.heap ∧ (∀ b ∈ fp, H' b = none) ∧ W i n τ ys H') ?_ m0
      ⟨0, _, [], [], 0, H2, .nil, Nat.zero_le _, I0, T.keep _ _ _ st fun b _ o e => old b o e, fun b hb => (hf b hb).1, w0⟩
    rintro n s5 ⟨i, τ, ys, its, k, H5, rv, hz, I5, st5, fr5, w5⟩
    rcases turn i n τ ys H5 w5 with ⟨stop, fin⟩ | ⟨go, step⟩
    · refine thn (T.done (blk X N sc cl P2.objs.size fp s2 H2) rfl rfl rfl hc i _ s5 τ H5 (fun _ _ => False) I5 (stat fr5) st5 stop) fun r s6 ⟨hr, I6⟩ => ?_
      subst hr
      obtain ⟨m, hns6, _⟩ := I6.loc
      obtain ⟨gD, fD, _, _, _⟩ := I6.pin (s2.heap.objs.size, { cls := .type "list", data := .seq its.toArray k }) (List.mem_append_right _ (by simp))
      have fD' : H5 s2.heap.objs.size = none := fD
      refine hRR _ _ s6 ys H5 fD' ⟨m, hns6⟩ ?_ (I.fpOk hCle ?_) fin
      · refine I.call' (ch := fp) I6.os (Un.grow I6.base (Nat.le_refl _) I.fresh) (HOk.grow I6.hok fD' ⟨hz, its, k, rv, gD⟩) I6.bare fun b hb => ?_
        obtain ⟨_, g2, _, g4, g5, g6⟩ := hf b hb
        exact ⟨g4, g2, g5, g6⟩
      · rw [upd_ne (Ne.symm hDC)]
        exact I6.free
    · refine thn (T.item (blk X N sc cl P2.objs.size fp s2 H2) rfl rfl rfl hc i _ s5 τ H5 (fun _ _ => False) I5 (stat fr5) st5 go) fun r s6 ⟨u, hr, h6⟩ => ?_
      subst hr
      refine thn h6 fun _ s7 ⟨x, H7, I7, r7, y7, st7, fr7⟩ => ?_
      have I7' := I7.pinned (stat fr7) (T.obj _ _ st7)
      refine thn (hg _ _ _ s7 τ H7 x u _ I7' r7 (step x H7 y7)) fun _ s8 ⟨τ8, H8, I8, q8⟩ => ?_
      refine thn (hfs _ _ _ s8 τ8 H8 _ I8 q8) fun ok s9 ⟨H9, I9, q9⟩ => ?_
      -- what the pins say behind the turn
      have tail : ∀ {s' : Shared} {τ' : St} {H' : Hp}, Inv (blk X N sc cl P2.objs.size fp s2 H2) ([(s2.heap.objs.size, { cls := .type "list", data := .seq its.toArray k })] ++ pinsAt fp s7.heap) τ' H' s' →
          (s'.heap.get? s2.heap.objs.size = some { cls := .type "list", data := .seq its.toArray k } ∧ H' s2.heap.objs.size = none) ∧ (∀ b ∈ fp, ∀ o, s7.heap.get? b = some o → s'.heap.get? b = some o) ∧ ∀ b ∈ fp, H' b = none := fun {s' τ' H'} I' => by
        refine ⟨?_, fun b hb o e => (I'.pin (b, o) (List.mem_append_right _ (List.mem_append_right _ (mem_pinsAt hb e)))).1, fun b hb => ?_⟩
        · obtain ⟨a1, a2, _⟩ := I'.pin (s2.heap.objs.size, { cls := .type "list", data := .seq its.toArray k }) (List.mem_append_right _ (List.mem_append_left _ (by simp)))
          exact ⟨a1, a2⟩
        · obtain ⟨o, e, _⟩ := T.obj _ _ st7 b hb
          exact (I'.pin (b, o) (List.mem_append_right _ (List.mem_append_right _ (mem_pinsAt hb e)))).2.1
      cases ok with
      | false =>
        obtain ⟨m', hm, w9⟩ := q9
        obtain ⟨_, k2, k3⟩ := tail I9
        exact ⟨m', hm, i + 1, τ8, ys, its, k, H9, rv, hz, I9.unpinned, T.keep _ _ _ st7 k2, k3, w9⟩
      | true =>
        refine thn (he _ _ _ s9 τ8 H9 _ I9 q9) fun v s10 ⟨y, H10, I10, r10, hl, m', hm, w10⟩ => ?_
        obtain ⟨⟨gD, fD⟩, k2, k3⟩ := tail I10
        have hlen := rv.length
        refine call_meets F.slot_list_append ⟨_, gD, rfl⟩ F.entry_list_append (F.args_list_append_2 _ _) (PySem.list_append s2.heap.objs.size its.toArray k v (by rw [List.size_toArray]; omega)) ⟨gD, ?_⟩
        obtain ⟨k', q⟩ : ∃ k', (s10.heap.update s2.heap.objs.size (Obj.mapSeq (·.push v))).get? s2.heap.objs.size = some { cls := .type "list", data := .seq (its ++ [v]).toArray k' } := by
          have q := PySem.IsL.update gD (·.push v)
          rw [show (its.toArray.push v) = (its ++ [v]).toArray from by simp] at q
          exact ⟨_, q⟩
        have other : ∀ b o, b ≠ s2.heap.objs.size → s10.heap.get? b = some o → (s10.heap.update s2.heap.objs.size (Obj.mapSeq (·.push v))).get? b = some o := fun b o hb e => (Heap.get?_update_other s10.heap _ (Ne.symm hb)).trans e
        have Ia : Inv (blk X N sc cl P2.objs.size fp s2 H2) [] τ8 H10 { s10 with heap := s10.heap.update s2.heap.objs.size (Obj.mapSeq (·.push v)), toks := s10.toks } :=
          (I10.pins_of (pins' := []) fun p hp => nomatch hp).turned other fD hDC (.inr (Nat.le_refl _)) (fun x c e => Nat.ne_of_lt (cellD x c e)) fun p hp => absurd (show p ∈ ([] : List (Addr × Obj)) from hp) (by simp)
        refine ⟨m', hm, i + 1, τ8, ys ++ [y], its ++ [v], k', H10, rv.append (.cons r10 .nil), by rw [List.length_append, List.length_singleton]; omega, ?_, T.keep _ _ _ st7 fun b hb o e => ?_, k3, w10⟩
        · refine Ia.pins_of fun p hp => ?_
          have hp' := List.mem_singleton.mp hp
          subst hp'
          exact ⟨q, fD, hDC, frD (Nat.le_refl _), fun v z => by cases z⟩
        · obtain ⟨ob, eb⟩ := fpo b hb
          exact other b o (Nat.ne_of_lt (Heap.lt_size eb)) (k2 b hb o e)
  exact codeAny_compStart_list (loop _ rfl) (T.self X.A 0 _ _ _ (T.keep _ _ _ st fun b _ o e => old b o e) (loop _ rfl))
end

section
variable {X : Cx} {N : List Str} {ix : List (Option Nat)} {sc : Scope} {el tg src : Expr} {ifs : List Expr} {wi : TI} {g : TG} {tf : TT} {te : TE} {pos : Pos}
theorem Inv.clos {pins : List (Addr × Obj)} {σ : St} {H : Hp} {s : Shared} (I : Inv X pins σ H s) (hb : blkOk X.env.scope X.N N ix sc = true) :
    ∃ cl : List (Str × Addr), closureFor sc X.env = pure cl ∧ (∀ x c, cl.lookup x = some c → X.env.cells.lookup x = some c) ∧ ∀ x, (x, NameKind.free) ∈ sc.names → ∃ c, cl.lookup x = some c := by
  refine clos_ok fun y hy hf => I.ok.has y.1 ?_
  unfold blkOk at hb
  simp only [Bool.and_eq_true] at hb
  have := List.all_eq_true.mp hb.1.2 y hy
  simp only [Bool.and_eq_true] at this
  have h2 := this.2
  rw [hf] at h2
  have h3 : X.env.scope.names.lookup y.1 = some .cell ∨ X.env.scope.names.lookup y.1 = some .free := by simpa using h2
  exact h3
theorem blk_names (hb : blkOk X.env.scope X.N N ix sc = true) : sc.kind = .function ∧ ∀ y ∈ sc.names, y.2 = .local → sc.names.lookup y.1 = some .local := by
  unfold blkOk at hb
  simp only [Bool.and_eq_true] at hb
  refine ⟨eq_of_beq hb.1.1, fun y hy hl => ?_⟩
  have := List.all_eq_true.mp hb.1.2 y hy
  simp only [Bool.and_eq_true] at this
  have h2 := this.1.2
  rw [hl] at h2
  simpa using h2
theorem pe_comp (ix : List (Option Nat)) (hc : X.calm = true) (hb : blkOk X.env.scope X.N N ix sc = true) (hi : PI X tg src wi)
    (hg : ∀ cl C fp s H, PG (blk X N sc cl C fp s H) tg g) (hf : ∀ cl C fp s H, PF (blk X N sc cl C fp s H) ifs tf) (he : ∀ cl C fp s H, PE (blk X N sc cl C fp s H) el te)
    (hs : ∀ x, foldedSetIterable src X.env x = pure x := by intro _; rfl) : PE X (.ListComp el [⟨tg, src, ifs, 0⟩] sc pos) (tComp ix wi g tf te) := by
  intro pins s σ H Q I h
  obtain ⟨cl, hcl, c1, c2⟩ := I.clos hb
  obtain ⟨hk, hn⟩ := blk_names hb
  rw [eval_ListComp]
  refine wpAny_comprehension_free (use := none) rfl hs hcl hk hn (thn (hi pins s σ H _ I h) fun xv s1 h1 => thn h1 fun itv s2 h2 => ?_)
  obtain ⟨it, fp, tn, J, H2, rfl, I2, T, st, f2, hW⟩ := h2
  refine comp_core (RR := fun acc C => compPost (model X.prog X.w) X.A X.xe none (EP X pins σ Q) acc C) I2 hc hb c1 c2 T st f2 (fun C fp => hg cl C fp s2 H2) (fun C fp => hf cl C fp s2 H2) (fun C fp => he cl C fp s2 H2) hW ?_
  intro D C s' ys H' hD ⟨m, hm⟩ I' fC fin
  refine ⟨m, hm, fun h' hs' => ⟨.ref D, _, ?_, rfl, fin D hD⟩⟩
  obtain ⟨g1, g2, _, g4, g5, g6⟩ := fC
  exact I'.turned (t' := s'.toks) (fun b o hb e => (hs'.2 b hb).trans e) g1 g2 g4 g5 g6
theorem ps_comp (ix : List (Option Nat)) {i : Nat} {x : Str} {pos' spos : Pos} (hN : X.N.Nodup) (hxi : X.N[i]? = some x) (hx : Loc X.env.scope x) (hc : X.calm = true) (hb : blkOk X.env.scope X.N N ix sc = true) (hi : PI X tg src wi)
    (hg : ∀ cl C fp s H, PG (blk X N sc cl C fp s H) tg g) (hf : ∀ cl C fp s H, PF (blk X N sc cl C fp s H) ifs tf) (he : ∀ cl C fp s H, PE (blk X N sc cl C fp s H) el te)
    (hsw : swapsWith (.ListComp el [⟨tg, src, ifs, 0⟩] sc pos) (some (.Name x pos')) spos.line X.env = pure true := by rfl)
    (hfn : X.fn x = true ∨ X.env.scope.names.lookup x = some .local := by first | exact .inl rfl | exact .inr rfl | assumption)
    (hs : ∀ x, foldedSetIterable src X.env x = pure x := by intro _; rfl) : PS X (.Assign [.Name x pos'] (.ListComp el [⟨tg, src, ifs, 0⟩] sc pos) spos) (tAsg (tComp ix wi g tf te) (gName i)) := by
  intro pins s σ H D0 I h
  obtain ⟨cl, hcl, c1, c2⟩ := I.clos hb
  obtain ⟨hk, hn⟩ := blk_names hb
  rw [exec_Assign_Name_used _ _ _ _ hsw]
  refine wpAny_bind (wpAny_standAt (wpAny_bind ?_))
  show wpAny _ X.A (do let _ ← comprehension (.ListComp el [⟨tg, src, ifs, 0⟩] sc pos) sc X.env _ (newList []) false (eval src X.env) (some (assign (.Name x pos') X.env))) _ _ s
  refine wpAny_bind (thn (wpAny_comprehension_free (use := some (assign (.Name x pos') X.env)) (Q := fun _ s' => SP X pins D0 .next s') rfl hs hcl hk hn (thn (hi pins s σ H _ I h) fun xv s1 h1 => thn h1 fun itv s2 h2 => ?_)) fun _ s' hq => wpAny_pure (wpAny_pure hq))
  obtain ⟨it, fp, tn, J, H2, rfl, I2, T, st, f2, hW⟩ := h2
  refine comp_core (RR := fun acc C => compPost (model X.prog X.w) X.A X.xe (some (assign (.Name x pos') X.env)) (fun _ s' => SP X pins D0 .next s') acc C) I2 hc hb c1 c2 T st f2 (fun C fp => hg cl C fp s2 H2) (fun C fp => hf cl C fp s2 H2) (fun C fp => he cl C fp s2 H2) hW ?_
  intro D C s' ys H' hD ⟨m, hm⟩ I' fC fin
  obtain ⟨g1, g2, _, g4, g5, g6⟩ := fC
  show wpAny _ X.A (assign (.Name x pos') X.env (.ref D)) _ _ _
  refine wpAny_assign_Name (store_ok2 (v := .ref D) I' hN hxi hx rfl (fun s'' I'' ⟨a, sb, ha⟩ => ?_) hfn)
  have hCa : C ≠ a := by
    rcases ha with z | z
    · rw [z]; exact g2
    · exact fun e => g5 x a z e.symm
  refine ⟨m, hm.sameBut sb hCa, fun h' hs' => ⟨_, _, I''.turned (t' := s''.toks) (fun b o hb e => (hs'.2 b hb).trans e) g1 g2 g4 g5 g6, fin D hD⟩⟩
end

theorem comp_range {lo : Int} {n : Nat} {tf : TT} {te : TE} {τ0 : St} {H : Hp} {Fin : List V → Hp → Prop} (f : Nat → V) (hn : n ≤ sizeLine)
    (hte : ∀ i H' Q, i < n → Same H H' → (∀ H'', Same H' H'' → Q (f i) H'') → tf (τ0.set 0 (some (.int (lo + i)))) H' fun b H3 => b = true ∧ te (τ0.set 0 (some (.int (lo + i)))) H3 Q)
    (mono : ∀ τ H Q Q', (∀ b H1, Q b H1 → Q' b H1) → tf τ H Q → tf τ H Q')
    (hfin : ∀ H', Same H H' → Fin ((List.range n).map f) H') : CompW (gName 0) tf te (Itr lo n) τ0 H Fin := by
  refine ⟨fun i m τ ys H' => m = n - i ∧ i ≤ n ∧ ys = (List.range i).map f ∧ Same H H' ∧ ∃ v, τ = τ0.set 0 v ∨ τ = τ0, ⟨n, rfl, Nat.zero_le _, rfl, Same.refl _, none, .inr rfl⟩, ?_⟩
  rintro i m τ ys H' ⟨rfl, hi, rfl, sm, v, hτ⟩
  by_cases hlt : i < n
  · refine .inr ⟨hlt, fun x H'' y => ?_⟩
    obtain ⟨e, y⟩ := y
    subst e y
    have e2 : τ.set 0 (some (V.int (lo + i))) = τ0.set 0 (some (V.int (lo + i))) := by
      rcases hτ with rfl | rfl
      · rw [List.set_set]
      · rfl
    show tf (τ.set 0 (some (V.int (lo + i)))) H'' _
    rw [e2]
    refine mono _ _ _ _ ?_ (hte i H'' (fun y H4 => ((List.range i).map f).length < sizeLine ∧ ∃ m', m' < n - i ∧ (m' = n - (i + 1) ∧ i + 1 ≤ n ∧ (List.range i).map f ++ [y] = (List.range (i + 1)).map f ∧ Same H H4 ∧ ∃ v, τ0.set 0 (some (V.int (lo + i))) = τ0.set 0 v ∨ τ0.set 0 (some (V.int (lo + i))) = τ0)) hlt sm fun H4 s4 => ?_)
    · rintro b H1 ⟨rfl, q⟩
      rw [if_pos rfl]
      exact q
    · refine ⟨by rw [List.length_map, List.length_range]; omega, n - (i + 1), by omega, rfl, hlt, by rw [List.range_succ, List.map_append]; rfl, sm.trans s4, _, .inl rfl⟩
  · have e : i = n := by omega
    subst e
    exact .inl ⟨Nat.le_refl _, hfin H' sm⟩
end L2

set_option maxHeartbeats 4000000
namespace L2
open PySem PySem.Spec PyProof.Rows

theorem ite2d {c A B : Prop} [Decidable c] (h1 : c → A) (h2 : ¬ c → B) : if decide c = true then A else B := by
  by_cases h : c
  · rw [if_pos (decide_eq_true h)]; exact h1 h
  · rw [if_neg (by simpa using h)]; exact h2 h
theorem iteVi {i j : Int} {A B : Prop} (h1 : i = j → A) (h2 : ¬ i = j → B) : if decide (V.int i = V.int j) = true then A else B :=
  ite2d (fun h => h1 (V.int.inj h)) fun h => h2 fun e => h (congrArg V.int e)
theorem Same.new {H : Hp} {p : Addr} {o : HO} (h : H p = none) : Same H (upd H p o) := fun b u e => by
  rw [upd_ne (ne_of_none e h)]; exact e
theorem Same.put {H H' : Hp} {p : Addr} {o : HO} (s : Same H H') (h : H' p = none) : Same H (upd H' p o) := s.trans (Same.new h)
theorem Same.over {H H' : Hp} {p : Addr} {o : HO} (s : Same H H') (h : H p = none) : Same H (upd H' p o) := fun b u e => by
  rw [upd_ne (ne_of_none e h)]; exact s b u e
structure FnAt (K : PySem.W.Frag) (mg : Str → Option Value) (x : Str) (st : Stmt) (ps : List Str) (f : Addr) (fd : FuncData) : Prop where
  F : Fun K x x st f fd
  b : Binds K fd ps []
  m : mg x = some (.ref f)
section
variable {X : Cx} {k : Nat} {f : Addr} {fd : FuncData} {ps : List Str} {sp : Sp} {x : Str} {st : Stmt} {p pos : Pos} {e : Expr} {es : List Expr} {t : TA}
theorem pcall (A : FnAt X.K X.mg x st ps f fd) (G : FnOk X.prog X.w X.K X.mg X.base CX0 k f fd ps sp) (hr : Room k X.A) (ha : PA X (e :: es) t) (hg : Gl X x := by rfl)
    (hdb : (x == ("__debug__" : Str)) = false := by decide) (he : starEach (e :: es) X.env = (false, eval e X.env) :: starEach es X.env := by rfl) (hpl : (backTo pos (starEach es X.env)).any (·.1) = false := by rfl) :
    PE X (.Call (.Name x p) (e :: es) [] pos) (tCall sp [] E0 t) := pe_call G hr hg A.m A.F.kp A.b .nil pass0 ha hdb he hpl
end
def Pur (v : V) (H : Hp) (Q : VK) : Prop := ∀ H', Same H H' → Q v H'
end L2

namespace Mine
open PySem PySem.Spec PyProof.Rows L2
def spCell (K : PySem.W.Frag) : Sp := fun vs H Q _ => ∃ (a : Addr) (ns : List Int) (k : Int), vs = [.ref a, .int k] ∧ SqL K H a (ns.map V.int) ∧ 0 ≤ k ∧ Pur (.int (cell ns k)) H Q
def spSub : Sp := fun vs H Q _ => ∃ (c j : Int), vs = [.int c, .int j] ∧ 0 ≤ j ∧ j ≤ 1000 ∧ Pur (.int (sub c j)) H Q
def spNumber : Sp := fun vs H Q _ => ∃ (c far : Int), vs = [.int c, .int far] ∧ 0 < far ∧ Pur (.int (number c far)) H Q
def spPick : Sp := fun vs H Q _ => ∃ (c k m : Int), vs = [.int c, .int k, .int m] ∧ 0 ≤ k ∧ k < 40 ∧ 0 < m ∧ Pur (.int (pick c k m)) H Q
def spName : Sp := fun vs H Q _ => ∃ (c : Int), vs = [.int c] ∧ Pur (.str (name c)) H Q
end Mine

set_option maxHeartbeats 4000000
namespace L2
open PySem PySem.Spec PyProof.Rows

section
variable {X : Cx}
def rSlS : V → Option Int → Option Int → Hp → VK → Prop := fun x lo hi H Q => ∃ z, x = .str z ∧ z.length ≤ sizeLine ∧ Q (.str (Txt.slice z lo hi)) H
theorem part_of {v : Value} {o : Option Int} (p : IsPart v o) : ∃ l : Option (Int × Tok), v = partValue l ∧ o = l.map (·.1) := by
  cases p with
  | none => exact ⟨none, rfl, rfl⟩
  | int i t => exact ⟨some (i, t), rfl, rfl⟩
theorem sl_str : SlR X rSlS := by
  intro pins s σ H x v vl vu lo hi sl Q I rx hs pl pu h
  obtain ⟨z, rfl, hz, q⟩ := h
  obtain ⟨t, rfl⟩ := rx
  obtain ⟨l, rfl, rfl⟩ := part_of pl
  obtain ⟨u, rfl, rfl⟩ := part_of pu
  obtain ⟨os, h1, h2, h3⟩ := hs
  refine ⟨"str", _, F.slot_str_getitem.lookup, typeIs_str _ _ _, ?_⟩
  exact wpAny_getItem_str_slice (l := l) (u := u) (st := none) ⟨os, h1, h2, h3⟩ rfl (post_val_or_str ⟨Nat.le_trans (Txt.slice_le z _ _) hz, fun t' k => ⟨.str _, H, I.tok k, ⟨t', rfl⟩, q⟩⟩)

end
end L2

set_option maxHeartbeats 4000000
namespace L2
open PySem PySem.Spec PyProof.Rows
section
variable {X : Cx} {K : PySem.W.Frag}
variable {o e : Expr} {es : List Expr} {to : TE} {t : TA} {name : Str} {apos cpos : Pos} {T id : String} {r : V → List V → Hp → VK → Prop}
end
end L2

set_option maxHeartbeats 4000000
namespace L2
open PySem PySem.Spec PyProof.Rows
structure QS (X : Cx) (st : Stmt) (t : TS) : Prop where
  h : PS X st t
structure QSs (X : Cx) (st : List Stmt) (t : TS) : Prop where
  h : PSs X st t
section
variable {X : Cx} {st : Stmt} {rest : List Stmt} {t u : TS} {e : Expr} {te : TE} {pos : Pos}
theorem qss_nil : QSs X [] tNext := ⟨pss_nil⟩
theorem qss_cons (h1 : QS X st t) (h2 : QSs X rest u) : QSs X (st :: rest) (tSeq t u) := ⟨pss_cons h1.h h2.h⟩
theorem qss_one (h1 : QS X st t) : QSs X [st] t := ⟨pss_one h1.h⟩
theorem qs_expr (he : PE X e te) (hs : swapsWith e none pos.line X.env = pure false := by rfl) : QS X (.Expr e pos) (tDrop te) := ⟨ps_expr he hs⟩
theorem qs_ret (he : PE X e te) : QS X (.Return (some e) pos) (tRet te) := ⟨ps_ret he⟩
theorem qs_if {c : Expr} {a b : List Stmt} {tc : TT} (hc : PT X c tc) (ha : QSs X a t) (hb : QSs X b u) : QS X (.If c a b pos) (tIfS tc t u) := ⟨ps_if hc ha.h hb.h⟩
theorem qs_for {tg iter : Expr} {body : List Stmt} {wi : TI} {g : TG} {tb : TS} (hp : PassesOwn (model X.prog X.w) X.A X.env X.xe) (hc : X.calm = true) (hi : PI X tg iter wi) (hg : PG X tg g) (hb : QSs X body tb) (hs : ∀ x, foldedSetIterable iter X.env x = pure x := by intro _; rfl) : QS X (.For tg iter body [] pos) (tFor wi g tb) := ⟨ps_for hp hc hi hg hb.h hs⟩
theorem qs_set {i : Nat} {x : Str} {pos' : Pos} (hN : X.N.Nodup) (hi : X.N[i]? = some x) (hx : Loc X.env.scope x) (he : PE X e te) (hs : swapsWith e (some (.Name x pos')) pos.line X.env = pure false := by rfl) (hf : X.fn x = true ∨ X.env.scope.names.lookup x = some .local := by first | exact .inl rfl | exact .inr rfl | assumption) :
    QS X (.Assign [.Name x pos'] e pos) (tAsg te (gName i)) := ⟨ps_set hN hi hx he hs hf⟩
end
section
variable {X : Cx} {N : List Str} {sc : Scope} {el tg src : Expr} {ifs : List Expr} {wi : TI} {g : TG} {tf : TT} {te : TE} {pos : Pos}
theorem qs_comp (ix : List (Option Nat)) {i : Nat} {x : Str} {pos' spos : Pos} (hN : X.N.Nodup) (hxi : X.N[i]? = some x) (hx : Loc X.env.scope x) (hc : X.calm = true) (hb : blkOk X.env.scope X.N N ix sc = true) (hi : PI X tg src wi)
    (hg : ∀ cl C fp s H, PG (blk X N sc cl C fp s H) tg g) (hf : ∀ cl C fp s H, PF (blk X N sc cl C fp s H) ifs tf) (he : ∀ cl C fp s H, PE (blk X N sc cl C fp s H) el te)
    (hsw : swapsWith (.ListComp el [⟨tg, src, ifs, 0⟩] sc pos) (some (.Name x pos')) spos.line X.env = pure true := by rfl)
    (hfn : X.fn x = true ∨ X.env.scope.names.lookup x = some .local := by first | exact .inl rfl | exact .inr rfl | assumption)
    (hs : ∀ x, foldedSetIterable src X.env x = pure x := by intro _; rfl) : QS X (.Assign [.Name x pos'] (.ListComp el [⟨tg, src, ifs, 0⟩] sc pos) spos) (tAsg (tComp ix wi g tf te) (gName i)) :=
  ⟨ps_comp ix hN hxi hx hc hb hi hg hf he hsw hfn hs⟩
end
structure QA (X : Cx) (es : List Expr) (t : TA) : Prop where
  h : PA X es t
section
variable {X : Cx} {e : Expr} {es : List Expr} {te : TE} {t : TA} {pos : Pos}
theorem qa_nil : QA X [] tNil := ⟨pa_nil⟩
theorem qa_cons (ha : PE X e te) (hr : QA X es t) (hs : starEach (e :: es) X.env = (false, eval e X.env) :: starEach es X.env := by rfl) : QA X (e :: es) (tCons te t) := ⟨pa_cons ha hr.h hs⟩
end
structure QE (X : Cx) (e : Expr) (t : TE) : Prop where
  h : PE X e t
section
variable {X : Cx} {a b e : Expr} {ta tb te : TE} {es : List Expr} {t : TA} {pos : Pos}
theorem qe_lstQ (h : QA X es t) : QE X (.List es pos) (tLst t) := ⟨pe_lst h.h⟩
theorem qe_ix {r : R2} (hr : IxR X r) (ha : QE X a ta) (hb : PE X b tb) (hs : PlainIx b) : QE X (.Subscript a b pos) (tOp r ta tb) := ⟨pe_ix hr ha.h hb hs⟩
theorem qs_setQ {i : Nat} {x : Str} {pos' : Pos} (hN : X.N.Nodup) (hi : X.N[i]? = some x) (hx : Loc X.env.scope x) (he : QE X e te) (hs : swapsWith e (some (.Name x pos')) pos.line X.env = pure false := by rfl) (hf : X.fn x = true ∨ X.env.scope.names.lookup x = some .local := by first | exact .inl rfl | exact .inr rfl | assumption) :
    QS X (.Assign [.Name x pos'] e pos) (tAsg te (gName i)) := ⟨ps_set hN hi hx he.h hs hf⟩
end
end L2

set_option maxHeartbeats 4000000
namespace L2
open PySem PySem.Spec PyProof.Rows
section
variable {X : Cx} {x : Str} {pos : Pos}
end
theorem kit_ty {K : PySem.W.Frag} {n m : String} {b : Bool} (h0 : (Value.type n == Value.type m) = false) (h1 : PySem.W.kitMeta m = true) (h2 : (fastBuiltinMro n).map (·.contains (Value.type m)) = some b) : PySem.W.kitOne K (.type n) (.type m) = some b := by
  unfold PySem.W.kitOne
  rw [if_neg (by rw [h0]; decide)]
  show (if PySem.W.kitMeta m = true then PySem.W.subIn K (.type n) (.type m) else none) = some b
  rw [if_pos h1]
  exact h2
end L2
namespace Mine
open PySem PySem.Spec PyProof.Rows L2 PySem.Builtin PySem.Builtin.Str
theorem appLen (a b : Str) : (a ++ b).length = a.length + b.length := by rw [strLen, strLen, strLen, strApp, List.length_append]
theorem line_big : 1000 ≤ sizeLine := by decide
end Mine
namespace L2
open PySem PySem.Spec PyProof.Rows
theorem iteTb {b : Bool} {A B : Prop} (e : b = true) (h : A) : if b = true then A else B := by rw [if_pos e]; exact h
theorem iteFb {b : Bool} {A B : Prop} (e : b = false) (h : B) : if b = true then A else B := by rw [if_neg (by rw [e]; decide)]; exact h
end L2

set_option maxHeartbeats 4000000
namespace Mine
open PySem PySem.Spec PyProof.Rows L2 PySem.Builtin PySem.Builtin.Str
end Mine

set_option maxHeartbeats 4000000
namespace L2
open PySem PySem.Spec PyProof.Rows
inductive DEq (K : PySem.W.Frag) (H : Hp) : Nat → V → V → Prop where
  | non {n : Nat} : DEq K H n .non .non
  | bl {n : Nat} (b : Bool) : DEq K H n (.bl b) (.bl b)
  | int {n : Nat} (i : Int) : DEq K H n (.int i) (.int i)
  | str {n : Nat} (x : Str) : DEq K H n (.str x) (.str x)
  | same {n : Nat} (a : Addr) : DEq K H n (.ref a) (.ref a)
  | tup {n : Nat} {a b : Addr} {xs ys : List V} (ha : SqT K H a xs) (hb : SqT K H b ys) (hl : xs.length = ys.length) (h : ∀ (i : Nat) x y, xs[i]? = some x → ys[i]? = some y → DEq K H n x y) : DEq K H (n + 1) (.ref a) (.ref b)
  | lst {n : Nat} {a b : Addr} {xs ys : List V} (ha : SqL K H a xs) (hb : SqL K H b ys) (hl : xs.length = ys.length) (h : ∀ (i : Nat) x y, xs[i]? = some x → ys[i]? = some y → DEq K H n x y) : DEq K H (n + 1) (.ref a) (.ref b)
section
variable {X : Cx} {pins : List (Addr × Obj)} {σ : St} {H : Hp} {s : Shared}
theorem Vals.at {xs : List V} {us : List Value} (r : Vals xs us) {j : Nat} (h : j < us.length) : ∃ x, xs[j]? = some x ∧ RelV x us[j] := by
  have hl := r.length
  have hx : xs[j]? = some xs[j] := List.getElem?_eq_getElem (by omega)
  obtain ⟨u, hu, ru⟩ := r.get hx
  rw [List.getElem?_eq_getElem h] at hu
  cases hu
  exact ⟨_, hx, ru⟩
theorem all_true (n : Nat) : (List.range n).all (fun _ => true) = true := by simp
theorem DEq.at (I : Inv X pins σ H s) {n : Nat} {x y : V} (d : DEq X.K H n x y) : ∀ {A : Around} {u v : Value}, A.units + n < cLine → RelV x u → RelV y v → SeqAt.EqAt A s u v true := by
  induction d with
  | non => intro A u v hu ru rv; cases ru; cases rv; exact SeqAt.EqAt.same _
  | bl b => intro A u v hu ru rv; cases ru; cases rv; exact SeqAt.EqAt.same _
  | int i =>
    intro A u v hu ru rv
    obtain ⟨t, rfl⟩ := ru
    obtain ⟨t', rfl⟩ := rv
    have := SeqAt.EqAt.int_int (A := A) (s := s) i t i t'
    rwa [beq_self_eq_true] at this
  | str x =>
    intro A u v hu ru rv
    obtain ⟨t, rfl⟩ := ru
    obtain ⟨t', rfl⟩ := rv
    have := SeqAt.EqAt.str_str (A := A) (s := s) x t x t'
    rwa [beq_self_eq_true] at this
  | same a => intro A u v hu ru rv; cases ru; cases rv; exact SeqAt.EqAt.same _
  | @tup n a b xs ys ha hb hl h ih =>
    intro A u v hu ru rv
    cases ru; cases rv
    by_cases hab : a = b
    · subst hab; exact SeqAt.EqAt.same _
    · obtain ⟨us, r1, p1, _⟩ := I.tuple ha
      obtain ⟨ws, r2, p2, _⟩ := I.tuple hb
      have l1 := r1.length
      have l2 := r2.length
      have := SeqAt.RcAt.tuples (A := A) (s := s) (e := fun _ => true) (show s.heap.IsTuple a us.toArray from p1) (show s.heap.IsTuple b ws.toArray from p2) (by omega) fun j h1 h2 => by
        have h1' : j < us.length := by simpa using h1
        have h2' : j < ws.length := by simpa using h2
        obtain ⟨x, ex, rx⟩ := r1.at h1'
        obtain ⟨y, ey, ry⟩ := r2.at h2'
        exact ih j x y ex ey (A := A.in1) (show A.units + 1 + n < cLine by omega) (by simpa using rx) (by simpa using ry)
      rw [all_true, show (us.toArray.size == ws.toArray.size) = true from by simp; omega] at this
      exact SeqAt.EqAt.of_refs hab this
  | @lst n a b xs ys ha hb hl h ih =>
    intro A u v hu ru rv
    cases ru; cases rv
    by_cases hab : a = b
    · subst hab; exact SeqAt.EqAt.same _
    · obtain ⟨us, r1, p1, _⟩ := I.list ha
      obtain ⟨ws, r2, p2, _⟩ := I.list hb
      have l1 := r1.length
      have l2 := r2.length
      have := SeqAt.RcAt.lists (A := A) (s := s) (e := fun _ => true) p1.isList p2.isList (by simp; omega) (by omega) fun j h1 h2 => by
        have h1' : j < us.length := by simpa using h1
        have h2' : j < ws.length := by simpa using h2
        obtain ⟨x, ex, rx⟩ := r1.at h1'
        obtain ⟨y, ey, ry⟩ := r2.at h2'
        exact ih j x y ex ey (A := A.in1) (show A.units + 1 + n < cLine by omega) (by simpa using rx) (by simpa using ry)
      rw [all_true] at this
      exact SeqAt.EqAt.of_refs hab this
def DSq (K : PySem.W.Frag) (H : Hp) (a b : Addr) : Prop := ∃ (n : Nat) (xs ys : List V), n ≤ 60 ∧ xs.length = ys.length ∧ ((SqT K H a xs ∧ SqT K H b ys) ∨ (SqL K H a xs ∧ SqL K H b ys)) ∧ ∀ (i : Nat) x y, xs[i]? = some x → ys[i]? = some y → DEq K H n x y
def rEqD (K : PySem.W.Frag) (r : Bool) : R2 := fun x y H Q => ∃ a b, x = .ref a ∧ y = .ref b ∧ DSq K H a b ∧ Q (.bl r) H
theorem op_eqD {K : PySem.W.Frag} (hK : X.K = K) (hu : X.A.units + 64 < cLine) : OpR X (compareOp .Eq) (rEqD K true) := by
  subst hK
  intro pins s σ H x y v u Q I rx ry h
  obtain ⟨a, b, rfl, rfl, ⟨n, xs, ys, hn, hl, hs, hd⟩, q⟩ := h
  cases rx; cases ry
  have fin : EP X pins σ Q (.bool true) s := ⟨.bl true, H, I, rfl, q⟩
  rcases hs with ⟨ha, hb⟩ | ⟨ha, hb⟩
  · obtain ⟨us, r1, p1, _⟩ := I.tuple ha
    obtain ⟨ws, r2, p2, _⟩ := I.tuple hb
    have l1 := r1.length
    have l2 := r2.length
    refine SeqAt.eq_tupleAt (e := fun _ => true) (show s.heap.IsTuple a us.toArray from p1) (show s.heap.IsTuple b ws.toArray from p2) (by omega) (fun j h1 h2 => ?_) ?_
    · have h1' : j < us.length := by simpa using h1
      have h2' : j < ws.length := by simpa using h2
      obtain ⟨x, ex, rx⟩ := r1.at h1'
      obtain ⟨y, ey, ry⟩ := r2.at h2'
      exact DEq.at I (hd j x y ex ey) (A := X.A.in1) (show X.A.units + 1 + n < cLine by omega) (by simpa using rx) (by simpa using ry)
    · rw [all_true, show (us.toArray.size == ws.toArray.size) = true from by simp; omega]
      exact fin
  · obtain ⟨us, r1, p1, _⟩ := I.list ha
    obtain ⟨ws, r2, p2, _⟩ := I.list hb
    have l1 := r1.length
    have l2 := r2.length
    refine SeqAt.eq_listAt (e := fun _ => true) p1.isList p2.isList (by simp; omega) (by omega) (fun j h1 h2 => ?_) ?_
    · have h1' : j < us.length := by simpa using h1
      have h2' : j < ws.length := by simpa using h2
      obtain ⟨x, ex, rx⟩ := r1.at h1'
      obtain ⟨y, ey, ry⟩ := r2.at h2'
      exact DEq.at I (hd j x y ex ey) (A := X.A.in1) (show X.A.units + 1 + n < cLine by omega) (by simpa using rx) (by simpa using ry)
    · rw [all_true]
      exact fin
theorem op_neD {K : PySem.W.Frag} (hK : X.K = K) (hu : X.A.units + 64 < cLine) : OpR X (compareOp .NotEq) (rEqD K false) := by
  subst hK
  intro pins s σ H x y v u Q I rx ry h
  obtain ⟨a, b, rfl, rfl, ⟨n, xs, ys, hn, hl, hs, hd⟩, q⟩ := h
  cases rx; cases ry
  have fin : EP X pins σ Q (.bool false) s := ⟨.bl false, H, I, rfl, q⟩
  rcases hs with ⟨ha, hb⟩ | ⟨ha, hb⟩
  · obtain ⟨us, r1, p1, _⟩ := I.tuple ha
    obtain ⟨ws, r2, p2, _⟩ := I.tuple hb
    have l1 := r1.length
    have l2 := r2.length
    have := SeqAt.RcNeAt.tuples (A := X.A) (s := s) (e := fun _ => true) (show s.heap.IsTuple a us.toArray from p1) (show s.heap.IsTuple b ws.toArray from p2) (by omega) fun j h1 h2 => by
      have h1' : j < us.length := by simpa using h1
      have h2' : j < ws.length := by simpa using h2
      obtain ⟨x, ex, rx⟩ := r1.at h1'
      obtain ⟨y, ey, ry⟩ := r2.at h2'
      exact DEq.at I (hd j x y ex ey) (A := X.A.in1) (show X.A.units + 1 + n < cLine by omega) (by simpa using rx) (by simpa using ry)
    rw [all_true, show (us.toArray.size == ws.toArray.size) = true from by simp; omega] at this
    exact this X.prog X.w X.xe _ fin
  · obtain ⟨us, r1, p1, _⟩ := I.list ha
    obtain ⟨ws, r2, p2, _⟩ := I.list hb
    have l1 := r1.length
    have l2 := r2.length
    have := SeqAt.RcNeAt.lists (A := X.A) (s := s) (e := fun _ => true) p1.isList p2.isList (by simp; omega) (by omega) fun j h1 h2 => by
      have h1' : j < us.length := by simpa using h1
      have h2' : j < ws.length := by simpa using h2
      obtain ⟨x, ex, rx⟩ := r1.at h1'
      obtain ⟨y, ey, ry⟩ := r2.at h2'
      exact DEq.at I (hd j x y ex ey) (A := X.A.in1) (show X.A.units + 1 + n < cLine by omega) (by simpa using rx) (by simpa using ry)
    rw [all_true] at this
    exact this X.prog X.w X.xe _ fin
end
section
variable {X : Cx} {K : PySem.W.Frag}
end
end L2

set_option maxHeartbeats 4000000
namespace L2
open PySem PySem.Spec PyProof.Rows
section
variable {X : Cx} {K : PySem.W.Frag} {tg : Expr}
end
section
variable {X : Cx} {K : PySem.W.Frag}
end
end L2

set_option maxHeartbeats 4000000
namespace Mine
open PySem PySem.Spec PyProof.Rows L2 PySem.Builtin PySem.Builtin.Str
end Mine

set_option maxHeartbeats 4000000
namespace L2
open PySem PySem.Spec PyProof.Rows
theorem comp_rangeP {lo : Int} {n : Nat} {te : TE} {τ0 : St} {H : Hp} {Fin : List V → Hp → Prop} (R : Nat → V → Hp → Prop) (hm : ∀ i v H' H'', R i v H' → Same H' H'' → R i v H'') (hn : n ≤ sizeLine)
    (hte : ∀ (i : Nat) H' (Q : VK), i < n → Same H H' → (∀ v H'', Same H' H'' → R i v H'' → Q v H'') → te (τ0.set 0 (some (.int (lo + i)))) H' Q)
    (hfin : ∀ ys H', Same H H' → ys.length = n → (∀ (i : Nat) v, ys[i]? = some v → R i v H') → Fin ys H') : CompW (gName 0) tYes te (Itr lo n) τ0 H Fin := by
  refine ⟨fun i m τ ys H' => m = n - i ∧ i ≤ n ∧ ys.length = i ∧ (∀ (j : Nat) v, ys[j]? = some v → R j v H') ∧ Same H H' ∧ ∃ v, τ = τ0.set 0 v ∨ τ = τ0, ⟨n, rfl, Nat.zero_le _, rfl, fun j v h => by simp at h, Same.refl _, none, .inr rfl⟩, ?_⟩
  rintro i m τ ys H' ⟨rfl, hi, hl, hr, sm, v, hτ⟩
  by_cases hlt : i < n
  · refine .inr ⟨hlt, fun x H'' y => ?_⟩
    obtain ⟨e, y⟩ := y
    subst e y
    have e2 : τ.set 0 (some (V.int (lo + i))) = τ0.set 0 (some (V.int (lo + i))) := by
      rcases hτ with rfl | rfl
      · rw [List.set_set]
      · rfl
    unfold gName tYes
    rw [e2]
    dsimp only
    rw [if_pos rfl]
    refine hte i H'' _ hlt sm fun v H4 s4 hv => ?_
    refine ⟨by omega, n - (i + 1), by omega, rfl, hlt, by rw [List.length_append, hl]; rfl, fun j u hj => ?_, sm.trans s4, _, .inl rfl⟩
    by_cases hji : j < ys.length
    · rw [List.getElem?_append_left hji] at hj
      exact hm _ _ _ _ (hr j u hj) s4
    · rw [List.getElem?_append_right (by omega)] at hj
      have hj0 : j - ys.length = 0 := by
        cases hh : j - ys.length with
        | zero => rfl
        | succ k => rw [hh] at hj; simp at hj
      rw [hj0] at hj
      have : j = i := by omega
      subst this
      have : v = u := by simpa using hj
      subst this
      exact hv
  · have e : i = n := by omega
    subst e
    exact .inl ⟨Nat.le_refl _, hfin ys H' sm hl hr⟩
end L2
namespace Mine
open PySem PySem.Spec PyProof.Rows L2 PySem.Builtin PySem.Builtin.Str
end Mine

set_option maxHeartbeats 4000000
namespace L2
open PySem PySem.Spec PyProof.Rows PySem.W
abbrev excObj (C : Addr) (dx : Option Addr) (vs : Array Value) : Obj := { cls := .ref C, dict := dx, data := .fields vs }
section
variable {prog : Program} {w : World} {A : Around} {R : Result → Shared → Prop} {h : Heap} {g : Array GenState} {d : Drawn} {t : Nat} {os : OsState}
variable {nm q : Str} {C N : Addr} {f : Value} {bs bm bmB : List Value} {hdct : Bool} {sn : List Str} {sub : List Value} {ab : Bool} {col : Option Bool} {dd : Option Addr} {k0 k1 k2 k3 k5 : Option Value} {B newId initId : String}
theorem exc_make (F : ExcBaseFacts B newId initId bmB) (T : OwnTail h bmB bm) {rest : List Value}
    (hC : h.get? C = some (excClassObj nm q C N bs bm hdct sn sub ab col dd k0 k1 k2 k3 k5 newId)) (hi : Looks (model prog w) h (typeLookup (.ref C) "__init__") (some f))
    (hb : ∀ self, Looks (model prog w) h (bindSpecial f self) (f, [self])) (hrest : rest.length ≤ sizeLine)
    (hq : codeAny (model prog w) (A.under (.builtin "type.__call__" ⟨.ref C :: rest, []⟩)) (.call f ⟨.ref (h.objs.size + 1) :: rest, []⟩) (InitBack (h.objs.size + 1) R)
      ⟨(h.push { cls := .type "tuple", data := .seq rest.toArray }).push (excObj C none #[.ref h.objs.size, .none, .none, .none, .bool false, .none]), g, d, t, os⟩) :
    codeAny (model prog w) A (.call (.ref C) ⟨rest, []⟩) R ⟨h, g, d, t, os⟩ := by
  have f1 := PySem.tc_lookup
  have f2 := PySem.tc_bind (.ref C)
  have hT : (⟨h, g, d, t, os⟩ : Shared).TypeIs (.ref C) "type" := ⟨_, hC, rfl⟩
  refine codeAny_of_tree ?_
  show wpAny _ _ (callAny (.ref C) _) _ _ _
  repeat (any_goals (first | assumption | with_reducible refine wpAny_loadPart_at hC ?_ | wp_step))
  refine ⟨rfl, ?_⟩
  refine codeAny_call_builtin_at (Code.quiet_builtin _ (by decide +kernel)) PySem.entry_typeCall (wpAny_check_type_call_sub hC ?_)
  repeat (first | with_reducible refine wpAny_loadPart_at hC ?_ | with_reducible refine wpAny_madeBy_exc hC ?_ | wp_step)
  refine codeAny_call_builtin_code (Code.quiet_builtin _ F.quiet) (wpAny_check_new_subT F T hC ?_)
  refine codeAny_exc_new_subT F T hC ?_ hrest
  show wpAny _ _ _ _ _ _
  have kp : ∀ b o, h.get? b = some o → ((h.push { cls := .type "tuple", data := .seq rest.toArray }).push { cls := .ref C, data := .fields #[.ref h.objs.size, .none, .none, .none, .bool false, .none] }).get? b = some o := fun b o e => Heap.get?_push_of_some _ (Heap.get?_push_of_some _ e)
  have hC₁ := kp _ _ hC
  have hget : ((h.push { cls := .type "tuple", data := .seq rest.toArray }).push { cls := .ref C, data := .fields #[.ref h.objs.size, .none, .none, .none, .bool false, .none] }).get? (h.objs.size + 1) = some { cls := .ref C, data := .fields #[.ref h.objs.size, .none, .none, .none, .bool false, .none] } := by heap_get
  have hcC : (Value.ref C :: bm).contains (.ref C) = true := by simp
  have t1 : Looks (model prog w) ((h.push { cls := .type "tuple", data := .seq rest.toArray }).push { cls := .ref C, data := .fields #[.ref h.objs.size, .none, .none, .none, .bool false, .none] }) (typeOf (.ref (h.objs.size + 1))) (.ref C) := (Looks.ld hget).andThen .now
  have s1 : Looks (model prog w) ((h.push { cls := .type "tuple", data := .seq rest.toArray }).push { cls := .ref C, data := .fields #[.ref h.objs.size, .none, .none, .none, .bool false, .none] }) (isSubtype (.ref C) (.ref C)) true := fun A' Q' E' s' k q' => by
    obtain ⟨h', g', d', tk', os'⟩ := s'
    refine wpAny_isSubtype_exc (k _ _ hC₁) ?_
    rw [hcC]
    exact q'
  have i1 := hi.keeps kp
  have b1 := (hb (.ref (h.objs.size + 1))).keeps kp
  show wpAny _ _ _ _ _ ⟨(h.push { cls := .type "tuple", data := .seq rest.toArray }).push { cls := .ref C, data := .fields #[.ref h.objs.size, .none, .none, .none, .bool false, .none] }, g, d, t, os⟩
  unfold isInstance callSpecial? specialOf
  repeat (first | with_reducible refine wpAny_call ?_ | lk)
  refine codeAny_mono hq fun r s' z => ?_
  rcases r with e | (v | _ | _ | _) <;> first | exact z | exact z.elim | skip
  obtain ⟨rfl, z⟩ := z
  exact wpAny_pure (wpAny_pure z)
theorem exc_init' (F : ExcBaseFacts B newId initId bmB) (T : OwnTail h bmB bm) {e : Addr} {dx : Option Addr} {t0 : Addr} {a1 a2 a3 a4 a5 v : Value}
    (hC : h.get? C = some (excClassObj nm q C N bs bm hdct sn sub ab col dd k0 k1 k2 k3 k5 newId)) (he : h.get? e = some { cls := .ref C, dict := dx, data := .fields #[.ref t0, a1, a2, a3, a4, a5] })
    (hq : ∀ h', (∀ b o, b ≠ e → h.get? b = some o → h'.get? b = some o) → h'.get? e = some { cls := .ref C, dict := dx, data := .fields #[.ref h.objs.size, a1, a2, a3, a4, a5] } → R (.ok (.ret .none)) ⟨h', g, d, t, os⟩) :
    codeAny (model prog w) A (.call (.builtin initId) ⟨[.ref e, v], []⟩) R ⟨h, g, d, t, os⟩ := by
  refine (codeAny_call_builtin F.init.plain F.initEntry (wpAny_check_init_subT F T hC he rfl ?_))
  wp_walk
  have hne : e ≠ h.objs.size := Nat.ne_of_lt (Heap.lt_size he)
  refine hq _ (fun b o hb ho => ?_) ?_
  · rw [Heap.get?_update_other _ _ (Ne.symm hb)]
    exact Heap.get?_push_of_some _ ho
  · rw [Heap.get?_update_self _ (Heap.get?_push_of_some _ he) rfl]
    rfl
theorem exc_init {E : Value → Shared → Prop} (F : ExcBaseFacts B newId initId bmB) (T : OwnTail h bmB bm) {e : Addr} {dx : Option Addr} {t0 : Addr} {a1 a2 a3 a4 a5 v : Value} {Q : Value → Shared → Prop}
    (hC : h.get? C = some (excClassObj nm q C N bs bm hdct sn sub ab col dd k0 k1 k2 k3 k5 newId)) (he : h.get? e = some { cls := .ref C, dict := dx, data := .fields #[.ref t0, a1, a2, a3, a4, a5] })
    (hq : ∀ h', (∀ b o, b ≠ e → h.get? b = some o → h'.get? b = some o) → h'.get? e = some { cls := .ref C, dict := dx, data := .fields #[.ref h.objs.size, a1, a2, a3, a4, a5] } → Q .none ⟨h', g, d, t, os⟩) :
    wpAny (model prog w) A (call (.builtin initId) [.ref e, v]) Q E ⟨h, g, d, t, os⟩ := by
  refine wpAny_call (exc_init' F T hC he fun h' k e' => ?_)
  exact hq h' k e'
end
end L2

set_option maxHeartbeats 4000000
namespace L2
open PySem PySem.Spec PyProof.Rows PySem.W
section
variable {prog : Program} {w : World} {A : Around} {E : Value → Shared → Prop} {s : Shared} {K : Frag} {x C : Addr} {ox : Obj} {od : Option Obj} {name : Str} {expr : Bool} {Q : Value → Shared → Prop}
theorem exc_get {v : Value} (X : K.In s.heap) (I : PySem.W.InstAt s.heap x ox C od) (hga : findIn K (.ref C) "__getattribute__" = some (some (.builtin "BaseException.__getattribute__"))) (hb : mroIn K C (.type "BaseException") = some true) (hk : findIn K (.ref C) "__getattr__" = some none)
    (hf : findObj K C od name = some (.value v)) (hh : handedIn v = true) (h : Q v { s with toks := s.toks + 1 }) : wpAny (model prog w) A (getAttr (.ref x) name expr) Q E s := by
  obtain ⟨hh', g, d, t, os⟩ := s
  have L0 := I.type (M := model prog w)
  have L1 := looks_findIn (M := model prog w) X hga
  have L2 := looks_find (M := model prog w) X I hf
  unfold getAttr getAttrBy
  refine wpAny_bind (wpAny_mkText (wpAny_holding (wpAny_bind (L0.at (wpAny_bind (L1.at ?_))))))
  have LH : Looks (model prog w) hh' (hookBefore (.ref C)) none := looks_hook X (by simp only [onTheHeap]; exact hk)
  have LB : Looks (model prog w) hh' (isInstance (.ref x) (.type "BaseException")) true := L0.andThen (looks_mroIn X hb)
  show wpAny _ _ (getAttrByItsOwn (.ref x) (.str name t) (.ref C) (.builtin "BaseException.__getattribute__") true expr) _ _ ⟨hh', g, d, t + 1, os⟩
  unfold getAttrByItsOwn
  refine wpAny_bind (LH.at (wpAny_bind (wpAny_attempt (wpAny_holding ?_))))
  have hx0 : (expr && onTheHeap (Value.builtin "BaseException.__getattribute__")) = false := by cases expr <;> rfl
  have f3 := F.excAttr_ValueError.ga.bind (.ref x)
  unfold callGetattribute
  rw [hx0]
  repeat (any_goals (first | assumption | wp_step))
  show codeAny (model prog w) A (Code.call (Value.builtin "BaseException.__getattribute__") ⟨[.ref x, .str name t], []⟩) _ _
  have hk1 : builtinKind "BaseException.__getattribute__" = some .slot := by decide +kernel
  have hs1 : splitId "BaseException.__getattribute__" = some ("BaseException", "__getattribute__") := by decide +kernel
  have hc : ∀ (A' : Around) (Q' : Unit → Shared → Prop) (E' : Value → Shared → Prop), Q' () ⟨hh', g, d, t + 1, os⟩ → wpAny (model prog w) A' (checkBuiltinCall "BaseException.__getattribute__" ⟨[.ref x, .str name t], []⟩) Q' E' ⟨hh', g, d, t + 1, os⟩ := fun A' Q' E' q' =>
    @check_slot (model prog w) A' E' ⟨hh', g, d, t + 1, os⟩ "BaseException.__getattribute__" "BaseException" "__getattribute__" (.ref x) [.str name t] [] Q' hk1 hs1 LB (F.args_bexc_ga (.ref x) (.str name t)) q'
  refine codeAny_call_builtin F.excAttr_ValueError.ga.plain F.entry_bexc_ga (hc _ _ _ ?_)
  unfold Builtin.«object.__getattribute__»
  repeat (first | with_reducible refine wpAny_bind (L0.at ?_) | with_reducible refine wpAny_bind (L2.at ?_) | wp_step)
  show wpAny _ _ (handedOut v) _ _ _
  rw [handedOut_of hh]; exact wpAny_pure h
end
end L2

set_option maxHeartbeats 4000000
namespace L2
open PySem PySem.Spec PyProof.Rows PySem.W
section
variable {prog : Program} {w : World} {A : Around} {E : Value → Shared → Prop} {s : Shared} {K : Frag} {x C : Addr} {ox : Obj} {od : Option Obj} {name : Str} {expr : Bool} {Q : Value → Shared → Prop}
theorem exc_class (X : K.In s.heap) (I : PySem.W.InstAt s.heap x ox C od) (hga : findIn K (.ref C) "__getattribute__" = some (some (.builtin "BaseException.__getattribute__"))) (hb : mroIn K C (.type "BaseException") = some true) (hk : findIn K (.ref C) "__getattr__" = some none)
    (hf : findObj K C od "__class__" = some (.bind (.builtin "getset_descriptor.__get__") (.builtin "object.__class__"))) (hm : mroIn K C (.type "object") = some true) {Q : Option Value → Shared → Prop} (h : Q (some (.ref C)) { s with toks := s.toks + 1 }) : wpAny (model prog w) A (getAttr? (.ref x) "__class__") Q E s := by
  obtain ⟨hh', g, d, t, os⟩ := s
  have L0 := I.type (M := model prog w)
  have L1 := looks_findIn (M := model prog w) X hga
  have L2 := looks_find (M := model prog w) X I hf
  unfold getAttr? getAttrBy?
  refine wpAny_bind (wpAny_mkText (wpAny_bind (wpAny_attempt ?_)))
  unfold getAttrBy
  refine wpAny_holding (wpAny_bind (L0.at (wpAny_bind (L1.at ?_))))
  have LH : Looks (model prog w) hh' (hookBefore (.ref C)) none := looks_hook X (by simp only [onTheHeap]; exact hk)
  have LB : Looks (model prog w) hh' (isInstance (.ref x) (.type "BaseException")) true := L0.andThen (looks_mroIn X hb)
  show wpAny _ _ (getAttrByItsOwn (.ref x) (.str "__class__" t) (.ref C) (.builtin "BaseException.__getattribute__") false false) _ _ ⟨hh', g, d, t + 1, os⟩
  unfold getAttrByItsOwn
  refine wpAny_bind (LH.at (wpAny_bind (wpAny_attempt (wpAny_holding ?_))))
  have hx0 : (false && onTheHeap (Value.builtin "BaseException.__getattribute__")) = false := rfl
  have f3 := F.excAttr_ValueError.ga.bind (.ref x)
  unfold callGetattribute
  rw [hx0]
  repeat (any_goals (first | assumption | wp_step))
  show codeAny (model prog w) A (Code.call (Value.builtin "BaseException.__getattribute__") ⟨[.ref x, .str "__class__" t], []⟩) _ _
  have hk1 : builtinKind "BaseException.__getattribute__" = some .slot := by decide +kernel
  have hs1 : splitId "BaseException.__getattribute__" = some ("BaseException", "__getattribute__") := by decide +kernel
  have hc : ∀ (A' : Around) (Q' : Unit → Shared → Prop) (E' : Value → Shared → Prop), Q' () ⟨hh', g, d, t + 1, os⟩ → wpAny (model prog w) A' (checkBuiltinCall "BaseException.__getattribute__" ⟨[.ref x, .str "__class__" t], []⟩) Q' E' ⟨hh', g, d, t + 1, os⟩ := fun A' Q' E' q' =>
    @check_slot (model prog w) A' E' ⟨hh', g, d, t + 1, os⟩ "BaseException.__getattribute__" "BaseException" "__getattribute__" (.ref x) [.str "__class__" t] [] Q' hk1 hs1 LB (F.args_bexc_ga (.ref x) (.str "__class__" t)) q'
  refine codeAny_call_builtin F.excAttr_ValueError.ga.plain F.entry_bexc_ga (hc _ _ _ ?_)
  unfold Builtin.«object.__getattribute__»
  repeat (first | with_reducible refine wpAny_bind (L0.at ?_) | with_reducible refine wpAny_bind (L2.at ?_) | wp_step)
  refine class_get X I hm ?_
  repeat (first | exact h | wp_step)
theorem kitx_exc (hcl : (clsIn K C).isSome = true) (hga : findIn K (.ref C) "__getattribute__" = some (some (.builtin "BaseException.__getattribute__"))) (hb : mroIn K C (.type "BaseException") = some true) (hk : findIn K (.ref C) "__getattr__" = some none)
    (hm : mroIn K C (.type "object") = some true) (hf : ∀ od, findObj K C od "__class__" = some (.bind (.builtin "getset_descriptor.__get__") (.builtin "object.__class__"))) :
    KitX K (.ref x) (.ref C) (fun h => ∃ ox od, PySem.W.InstAt h x ox C od) where
  ty := fun _ _ _ I => let ⟨_, _, I⟩ := I; I.type
  it := fun _ _ X _ => by
    obtain ⟨cdD, hcD⟩ := Option.isSome_iff_exists.mp hcl
    unfold clsIn at hcD
    split at hcD
    · rename_i c' d' cd' sl' ho
      intro A' Q' E' s' k q
      unfold isType loadHead
      exact wpAny_bind (wpAny_loadPart (k _ _ (X _ _ ho)) (wpAny_pure q))
    · cases hcD
  ne := fun h tp dd its n sl X htp => by
    obtain ⟨cdD, hcD⟩ := Option.isSome_iff_exists.mp hcl
    refine Bool.eq_false_iff.mpr fun q => ?_
    have e : C = tp := Value.ref.inj (beq_iff_eq.mp q)
    subst e
    unfold clsIn at hcD
    split at hcD
    · rename_i c' d' cd' sl' ho
      have z := (X _ _ ho).symm.trans htp
      cases z
    · cases hcD
  ca := fun X I k => let ⟨_, _, I⟩ := I; exc_class X I hga hb hk (hf _) hm k
end
end L2

set_option maxHeartbeats 4000000
namespace L2
open PySem PySem.Spec PyProof.Rows PySem.W Builtin Builtin.ObjectAttr
def onlyVE : List Value → Bool
  | .ref _ :: r => onlyVE r
  | l => l == [.type "ValueError", .type "Exception", .type "BaseException", .type "object"]
theorem onlyVE_ref (c : Addr) (r : List Value) : onlyVE (.ref c :: r) = onlyVE r := by rw [onlyVE]
theorem onlyVE_end : ∀ {l : List Value}, onlyVE l = true → (∃ c r, l = .ref c :: r) ∨ l = [.type "ValueError", .type "Exception", .type "BaseException", .type "object"]
  | .ref c :: r, _ => .inl ⟨c, r, rfl⟩
  | [], e => by cases e
  | .type n :: r, e => .inr (eq_of_beq (by unfold onlyVE at e; exact e))
  | .none :: r, e => .inr (eq_of_beq (by unfold onlyVE at e; exact e))
  | .bool _ :: r, e => .inr (eq_of_beq (by unfold onlyVE at e; exact e))
  | .int _ _ :: r, e => .inr (eq_of_beq (by unfold onlyVE at e; exact e))
  | .str _ _ :: r, e => .inr (eq_of_beq (by unfold onlyVE at e; exact e))
  | .builtin _ :: r, e => .inr (eq_of_beq (by unfold onlyVE at e; exact e))
  | .float _ _ :: r, e => .inr (eq_of_beq (by unfold onlyVE at e; exact e))
  | .bytes _ _ :: r, e => .inr (eq_of_beq (by unfold onlyVE at e; exact e))
  | .ellipsis :: r, e => .inr (eq_of_beq (by unfold onlyVE at e; exact e))
  | .notImplemented :: r, e => .inr (eq_of_beq (by unfold onlyVE at e; exact e))
theorem refuse_onlyVE (self : Value) : ∀ {l : List Value}, onlyVE l = true → refuseLoop self "__setattr__" l = pure ()
  | l, e => by
    rcases onlyVE_end e with ⟨c, r, rfl⟩ | rfl
    · rw [refuseLoop_ref]; exact refuse_onlyVE self (l := r) (by rw [onlyVE_ref] at e; exact e)
    · exact PySem.F.store_ValueError.passes self
termination_by l => l.length
theorem onlyVE_has : ∀ {l : List Value}, onlyVE l = true → l.contains (.type "object") = true
  | l, e => by
    rcases onlyVE_end e with ⟨c, r, rfl⟩ | rfl
    · rw [List.contains_cons, onlyVE_has (l := r) (by rw [onlyVE_ref] at e; exact e), Bool.or_true]
    · decide
termination_by l => l.length
def overVE (K : Frag) (C : Addr) : Bool := (clsIn K C).any fun cd => onlyVE cd.mro
section
variable {prog : Program} {w : World} {A : Around} {s : Shared} {K : Frag} {x C : Addr} {R : Result → Shared → Prop}
theorem osa_openX {ox : Obj} {od : Option Obj} {name : Str} {tk : Tok} {v : Value} {r : Option Value} (X : K.In s.heap) (I : InstAt s.heap x ox C od) (hp : overVE K C = true) (ht : takerIn K C name = some r)
    (h : ∀ b, wpAny (model prog w) A.in1 (match r with | some a => Builtin.ObjectAttr.setByDescriptor a (.ref x) v | none => Builtin.ObjectAttr.storeInOwnDict (.ref x) (.ref C) (.str name tk) name v b)
      (fun fin s' => match fin with | .done f => R (.ok f) s' | .again c' => c'.quiet = true ∧ codeAny (model prog w) A c' R s') (fun e s' => R (.error e) s') s) :
    codeAny (model prog w) A (.call (.builtin "object.__setattr__") ⟨[.ref x, .str name tk, v], []⟩) R s := by
  have SF := PySem.F.store_object
  obtain ⟨cd, hc, ho⟩ := any_some hp
  have ne : cd.mro.isEmpty = false := by cases q : cd.mro with | nil => rw [q] at ho; cases ho | cons _ _ => rfl
  have sub : Looks (model prog w) s.heap (isInstance (.ref x) (.type "object")) true := I.type.andThen (looks_mroIn X (by unfold mroIn; rw [hc, Option.bind_some, if_neg (by rw [ne]; decide), onlyVE_has ho]))
  refine codeAny_call_builtin SF.slot.plain SF.entry (@check_slot (model prog w) _ _ s "object.__setattr__" "object" "__setattr__" (.ref x) [.str name tk, v] [] _ SF.kind SF.split sub (SF.args (.ref x) (.str name tk) v) ?_)
  obtain ⟨attr, ha, hr⟩ := Option.bind_eq_some_iff.mp ht
  have hm : Looks (model prog w) s.heap (mroOf (.ref C)) cd.mro := (looks_clsIn X hc).andThen .now
  have L3 : Looks (model prog w) s.heap (storeTaker? attr) r := by
    cases attr with
    | none => cases hr; exact .now
    | some a =>
      obtain ⟨b, hb, rfl⟩ := Option.map_eq_some_iff.mp hr
      refine (looks_takesIn X hb).andThen ?_
      cases b <;> exact .now
  rw [osa_eq, refuse_eq]
  refine wpAny_bind (wpAny_bind (I.type.here (wpAny_bind (hm.here ?_))))
  rw [refuse_onlyVE _ ho]
  refine wpAny_pure (wpAny_bind (I.type.here (wpAny_bind ((looks_findIn X ha).here (wpAny_bind (L3.here ?_))))))
  exact h _
end

section
variable {prog : Program} {w : World} {A : Around} {E : Value → Shared → Prop} {s : Shared} {K : Frag} {x C : Addr} {name : Str} {v : Value} {vs : Array Value}
theorem exc_set0 {Q : Unit → Shared → Prop} (X : K.In s.heap) (hx : s.heap.get? x = some (excObj C none vs))
    (hs : findIn K (.ref C) "__setattr__" = some (some (.builtin "object.__setattr__"))) (hp : overVE K C = true) (ht : takerIn K C name = some none) (hh : hasDictIn K C = true)
    (h : ∀ h' t', (∀ b o, b ≠ x → s.heap.get? b = some o → h'.get? b = some o) → h'.get? x = some (excObj C (some s.heap.objs.size) vs) → h'.Ns1 s.heap.objs.size (fun y => if y = name then some v else none) →
      Q () { s with heap := h', toks := t' }) :
    wpAny (model prog w) A (setAttr (.ref x) name v) Q E s := by
  have I : InstAt s.heap x (excObj C none vs) C none := ⟨hx, rfl, rfl, True.intro⟩
  refine set_plain X I hs (osa_openX (s := { s with toks := s.toks + 1 }) (r := none) X I hp ht fun b => ?_)
  obtain ⟨cd, hc, hd'⟩ := any_some hh
  refine wpAny_bind (wpAny_pure (wpAny_bind (wpAny_bind (wpAny_loadPart hx (wpAny_bind (Looks.here (s := { s with toks := s.toks + 1 }) (looks_clsIn X hc) ?_))))))
  rw [hd']
  have hx₁ : (s.heap.push { cls := .type "dict", data := .dict #[] }).get? x = some (excObj C none vs) := Heap.get?_push_of_some _ hx
  have hxs : x ≠ s.heap.objs.size := Nat.ne_of_lt (Heap.lt_size hx)
  refine wpAny_bind (wpAny_alloc' ?_)
  refine wpAny_bind (wpAny_update' hx₁ ?_)
  refine wpAny_pure ?_
  have hgd : ((s.heap.push { cls := .type "dict", data := .dict #[] }).update x fun o => { cls := o.cls, dict := some s.heap.objs.size, data := o.data, slots := o.slots }).get? s.heap.objs.size
      = some { cls := .type "dict", data := .dict #[] } :=
    (Heap.get?_update_ne _ _ _ _ hxs.symm).trans (Heap.get?_push_at rfl rfl)
  have hnd : ((s.heap.push { cls := .type "dict", data := .dict #[] }).update x fun o => { cls := o.cls, dict := some s.heap.objs.size, data := o.data, slots := o.slots }).Ns s.heap.objs.size (fun _ => none) :=
    ⟨_, #[], _, hgd, rfl, fun e he => absurd he (by simp), fun _ => rfl⟩
  show wpAny _ _ (storeInDict s.heap.objs.size (.str name s.toks) name v) _ _ _
  unfold storeInDict newKeyGuard
  refine wpAny_bind (wpAny_pure (wpAny_bind (wpAny_nsSet1 (Heap.Ns1.of_empty hnd) fun h' hn' hs => ?_)))
  obtain ⟨oD, esD, epD, hoD, hdD, hcD⟩ := hn'.count (Within.cons name v Within.nil)
  refine wpAny_bind (wpAny_lookBehind hoD (by rw [hdD]; exact pastItsLine_dict (Nat.le_trans hcD (by rw [List.length_cons, List.length_nil, sizeLine_eq]; omega))) ?_)
  refine wpAny_pure (h _ _ (fun b ob hbx hb => ?_) ?_ hn')
  · exact (hs.2 b (Nat.ne_of_lt (Heap.lt_size hb))).trans ((Heap.get?_update_ne _ _ _ _ hbx).trans (Heap.get?_push_of_some _ hb))
  · exact (hs.2 x hxs).trans (Heap.get?_update_self _ hx₁ rfl)
theorem exc_set1 {Q : Unit → Shared → Prop} {dx : Addr} {mA : Str → Option Value} {ns : List Str} (X : K.In s.heap) (hx : s.heap.get? x = some (excObj C (some dx) vs)) (hn : s.heap.Ns1 dx mA) (hne : dx ≠ x)
    (hs : findIn K (.ref C) "__setattr__" = some (some (.builtin "object.__setattr__"))) (hp : overVE K C = true) (ht : takerIn K C name = some none) (hh : hasDictIn K C = true) (hw : Within mA ns) (hsz : ns.length ≤ sizeLine)
    (h : ∀ h' t', Heap.SameBut dx s.heap h' → h'.Ns1 dx (fun y => if y = name then some v else mA y) → Q () { s with heap := h', toks := t' }) :
    wpAny (model prog w) A (setAttr (.ref x) name v) Q E s := by
  obtain ⟨od, ho, _⟩ := lookIn_ns hn
  have I : InstAt s.heap x (excObj C (some dx) vs) C (some od) := ⟨hx, rfl, rfl, ho⟩
  refine set_plain X I hs (osa_openX (s := { s with toks := s.toks + 1 }) (r := none) X I hp ht fun b => ?_)
  obtain ⟨cd, hc, hd'⟩ := any_some hh
  refine wpAny_bind (wpAny_pure (wpAny_bind (wpAny_bind (wpAny_loadPart hx (wpAny_bind (Looks.here (s := { s with toks := s.toks + 1 }) (looks_clsIn X hc) ?_))))))
  rw [hd']
  refine wpAny_pure (a := some dx) (wpAny_bind (wpAny_pure (wpAny_bind ?_)))
  refine wpAny_nsSet1 (s := { s with toks := s.toks + 1 }) hn fun h' hn2 hs2 => ?_
  obtain ⟨oD, esD, epD, hoD, hdD, hcD⟩ := hn2.count (Within.cons name v hw)
  refine wpAny_bind (wpAny_lookBehind hoD (by rw [hdD]; exact pastItsLine_dict (Nat.le_trans hcD (by rw [List.length_cons]; omega))) ?_)
  exact wpAny_pure (h _ _ hs2 hn2)
end
end L2

set_option maxHeartbeats 4000000
namespace L2
open PySem PySem.Spec PyProof.Rows PySem.W
def ExO (x C : Addr) (dx : Option Addr) : HO := .ext fun h => ∃ t0 a1 a2 a3 a4 a5, h.get? x = some (excObj C dx #[.ref t0, a1, a2, a3, a4, a5])
def XdO (p : Addr) (fs : List (Str × V)) : HO := .ext fun h => ∃ mA, h.Ns1 p mA ∧ (∀ f, RelO (fs.lookup f) (mA f)) ∧ Within mA (fs.map (·.1))
section
variable {P : Program} {w : World} {H : Hp} {h : Heap} {x p C : Addr} {dx : Option Addr} {fs : List (Str × V)}
theorem exO_ok {t0 : Addr} {a1 a2 a3 a4 a5 : Value} (e : h.get? x = some (excObj C dx #[.ref t0, a1, a2, a3, a4, a5])) : ObjOk P w H h x (ExO x C dx) :=
  ⟨⟨_, _, _, _, _, _, e⟩, ⟨_, e⟩, fun h1 h2 ⟨t0, a1, a2, a3, a4, a5, q⟩ k => ⟨t0, a1, a2, a3, a4, a5, k _ q⟩⟩
theorem xdO_ok {mA : Str → Option Value} (n : h.Ns1 p mA) (r : ∀ f, RelO (fs.lookup f) (mA f)) (wi : Within mA (fs.map (·.1))) : ObjOk P w H h p (XdO p fs) :=
  ⟨⟨mA, n, r, wi⟩, let ⟨o, _, _, e, _⟩ := n; ⟨o, e⟩, fun h1 h2 ⟨mA, ⟨o, es, ep, e, c⟩, r⟩ k => ⟨mA, ⟨o, es, ep, k _ e, c⟩, r⟩⟩
theorem exO_get (hok : HOk P w H h) (e : H x = some (ExO x C dx)) : ∃ t0 a1 a2 a3 a4 a5, h.get? x = some (excObj C dx #[.ref t0, a1, a2, a3, a4, a5]) := (show ObjOk P w H h x (ExO x C dx) from hok x _ e).1
theorem xdO_get (hok : HOk P w H h) (e : H p = some (XdO p fs)) : ∃ mA, h.Ns1 p mA ∧ (∀ f, RelO (fs.lookup f) (mA f)) ∧ Within mA (fs.map (·.1)) := (show ObjOk P w H h p (XdO p fs) from hok p _ e).1
end
structure ClsX (K : Frag) (C : Addr) : Prop where
  ga : findIn K (.ref C) "__getattribute__" = some (some (.builtin "BaseException.__getattribute__"))
  bx : mroIn K C (.type "BaseException") = some true
  nga : findIn K (.ref C) "__getattr__" = some none
  ob : mroIn K C (.type "object") = some true
  hd : hasDictIn K C = true
  ov : overVE K C = true
  sa : findIn K (.ref C) "__setattr__" = some (some (.builtin "object.__setattr__"))
  cl : findIn K (.ref C) "__class__" = some (some (.builtin "object.__class__"))
  cg : specialIn K (.builtin "object.__class__") "__get__" = some (some (.builtin "getset_descriptor.__get__"))
  ct : takesIn K (.builtin "object.__class__") = some true
theorem ClsX.cls {K : Frag} {C : Addr} (c : ClsX K C) : (clsIn K C).isSome = true := by
  obtain ⟨cd, hc, _⟩ := any_some c.hd
  rw [hc]; rfl
theorem ClsX.fo {K : Frag} {C : Addr} (c : ClsX K C) (od : Option Obj) : findObj K C od "__class__" = some (.bind (.builtin "getset_descriptor.__get__") (.builtin "object.__class__")) := by
  obtain ⟨cd, hc, _⟩ := any_some c.hd
  unfold findObj
  rw [hc, Option.bind_some, c.cl, Option.bind_some]
  dsimp only
  rw [c.cg, Option.bind_some]
  dsimp only
  rw [c.ct, Option.bind_some]
section
variable {X : Cx} {pins : List (Addr × Obj)} {σ : St} {H : Hp} {s : Shared} {a C dx : Addr} {fs : List (Str × V)} {f : Str} {v : V} {A : Around} {E : Value → Shared → Prop}
theorem xget_ok {b : Bool} {Q : Value → Shared → Prop} (I : Inv X pins σ H s) (e : H a = some (ExO a C (some dx))) (d : H dx = some (XdO dx fs)) (c : ClsX X.K C) (n : NoAttr X.K C f) (l : fs.lookup f = some v)
    (h : ∀ u s', Inv X pins σ H s' → RelV v u → Q u s') : wpAny (model X.prog X.w) A (getAttr (.ref a) f b) Q E s := by
  obtain ⟨t0, a1, a2, a3, a4, a5, hx⟩ := exO_get I.hok e
  obtain ⟨mA, hn, r, _⟩ := xdO_get I.hok d
  obtain ⟨u, hu, ru⟩ := RelO.some_of (v := v) (o := mA f) (by rw [← l]; exact r f)
  obtain ⟨od, ho, hl⟩ := lookIn_ns hn
  have J : InstAt s.heap a (excObj C (some dx) #[.ref t0, a1, a2, a3, a4, a5]) C (some od) := ⟨hx, rfl, rfl, ho⟩
  exact exc_get I.kIn J c.ga c.bx c.nga (findObj_own c.hd n rfl (by rw [hl, hu])) (handed_of ru) (h u _ (I.tok _) ru)
theorem xset0_ok {y : V} {u : Value} {Q : Unit → Shared → Prop} (I : Inv X pins σ H s) (e : H a = some (ExO a C none)) (c : ClsX X.K C) (n : NoAttr X.K C f) (ry : RelV y u)
    (h : ∀ p s', H p = none → p ≠ a → Inv X pins σ (upd (upd H p (XdO p [(f, y)])) a (ExO a C (some p))) s' → Q () s') : wpAny (model X.prog X.w) A (setAttr (.ref a) f u) Q E s := by
  obtain ⟨t0, a1, a2, a3, a4, a5, hx⟩ := exO_get I.hok e
  have hlt : a < s.heap.objs.size := Heap.lt_size hx
  have hne : s.heap.objs.size ≠ a := Nat.ne_of_gt hlt
  refine exc_set0 I.kIn hx c.sa c.ov n.taker c.hd fun h' t' k hx' hn' => h s.heap.objs.size _ (I.hok.fresh (Nat.le_refl _)) hne ?_
  have g1 : (h'.update a fun _ => excObj C none #[.ref t0, a1, a2, a3, a4, a5]).get? a = some (excObj C none #[.ref t0, a1, a2, a3, a4, a5]) := Heap.get?_update_self _ hx' rfl
  have g2 : ∀ b, b ≠ a → (h'.update a fun _ => excObj C none #[.ref t0, a1, a2, a3, a4, a5]).get? b = h'.get? b := fun b hb => Heap.get?_update_ne _ _ _ _ hb
  have I1 := I.laid (a := s.heap.objs.size) (o := XdO s.heap.objs.size [(f, y)]) (h' := h'.update a fun _ => excObj C none #[.ref t0, a1, a2, a3, a4, a5]) (t' := t') (fun b o q => by
      by_cases hb : b = a
      · subst hb; rw [hx] at q; cases q; exact g1
      · rw [g2 b hb]; exact k b o hb q) (Nat.le_refl _) (by
      obtain ⟨o, es, ep, q, r⟩ := hn'
      refine xdO_ok ⟨o, es, ep, by rw [g2 _ hne]; exact q, r⟩ (fun g => ?_) (fun g hg => ?_)
      · show RelO (List.lookup g [(f, y)]) (if g = f then some u else none)
        by_cases z : g = f
        · have hb : (g == f) = true := beq_iff_eq.mpr z
          simp only [List.lookup, hb, if_pos z]; exact ry
        · have hb : (g == f) = false := beq_eq_false_iff_ne.mpr z
          simp only [List.lookup, hb, if_neg z]; exact True.intro
      · by_cases z : g = f
        · rw [z]; simp
        · exact absurd (if_neg z) hg)
  refine I1.write (x := a) (e := a) (o := ExO a C (some s.heap.objs.size)) (t' := t') (h' := h') (by rw [upd_ne hne.symm, e]; exact True.intro) (.inl rfl) (fun b o hb q => by rw [← g2 b hb]; exact q) ⟨_, hx'⟩ (exO_ok hx')
theorem xset1_ok {y : V} {u : Value} {Q : Unit → Shared → Prop} (I : Inv X pins σ H s) (e : H a = some (ExO a C (some dx))) (d : H dx = some (XdO dx fs)) (c : ClsX X.K C) (n : NoAttr X.K C f) (hl : fs.length < 1000) (ry : RelV y u)
    (h : ∀ s', Inv X pins σ (upd H dx (XdO dx (putF f y fs))) s' → Q () s') : wpAny (model X.prog X.w) A (setAttr (.ref a) f u) Q E s := by
  obtain ⟨t0, a1, a2, a3, a4, a5, hx⟩ := exO_get I.hok e
  obtain ⟨mA, hn, r, wi⟩ := xdO_get I.hok d
  have hne : dx ≠ a := by
    intro z
    subst z
    obtain ⟨o, es, ep, q, q2, _⟩ := hn
    rw [hx] at q
    cases q
    cases q2
  have hz : (fs.map (·.1)).length ≤ sizeLine := by rw [List.length_map, sizeLine_eq]; omega
  refine exc_set1 I.kIn hx hn hne c.sa c.ov n.taker c.hd wi hz fun h' t' sb hn' => h _ ?_
  refine I.write (x := dx) (e := dx) (o := XdO dx (putF f y fs)) (t' := t') (by rw [d]; exact True.intro) (.inl rfl) (fun b q hb z => (sb.2 b hb).trans z) (let ⟨o, _, _, e', _⟩ := hn'; ⟨o, e'⟩) (xdO_ok hn' (fun g => ?_) (fun g hg => ?_))
  · show RelO ((putF f y fs).lookup g) (if g = f then some u else mA g)
    rw [lookup_putF]
    by_cases q : g = f
    · rw [if_pos q, if_pos q]; exact ry
    · rw [if_neg q, if_neg q]; exact r g
  · by_cases q : g = f
    · rw [q]; exact (keys_putF f y fs).1
    · refine (keys_putF f y fs).2 g (wi g fun z => hg ?_)
      show (if g = f then some u else mA g) = none
      rw [if_neg q]; exact z
theorem xinst_ok {dx : Option Addr} {c : Value} {b : Bool} {Q : Value → Shared → Prop} (I : Inv X pins σ H s) (e : H a = some (ExO a C dx)) (cl : ClsX X.K C) (k : kitOne X.K (.ref C) c = some b) (dxd : ∀ p, dx = some p → ∃ fs, H p = some (XdO p fs))
    (h : ∀ tk, Q (.bool b) { s with toks := tk }) : wpAny (model X.prog X.w) A (call (.builtin "isinstance") [.ref a, c]) Q E s := by
  obtain ⟨t0, a1, a2, a3, a4, a5, hx⟩ := exO_get I.hok e
  have J : ∃ ox od, PySem.W.InstAt s.heap a ox C od := by
    cases dx with
    | none => exact ⟨_, none, hx, rfl, rfl, True.intro⟩
    | some p =>
      obtain ⟨fs, d⟩ := dxd p rfl
      obtain ⟨mA, hn, _⟩ := xdO_get I.hok d
      obtain ⟨od, ho, _⟩ := lookIn_ns hn
      exact ⟨_, some od, hx, rfl, rfl, ho⟩
  exact kia_one (kitx_exc cl.cls cl.ga cl.bx cl.nga cl.ob cl.fo) I.kIn J k (fun z => nomatch z) h
end
def tXFld (K : Frag) (ta : TE) (f : Str) : TE := fun σ H Q => ta σ H fun x H1 => ∃ a C dx fs v, x = .ref a ∧ H1 a = some (ExO a C (some dx)) ∧ H1 dx = some (XdO dx fs) ∧ ClsX K C ∧ NoAttr K C f ∧ fs.lookup f = some v ∧ Q v H1
def sXFld0 (K : Frag) (ta tv : TE) (f : Str) : TS := fun D σ H => tv σ H fun y H1 => ta σ H1 fun x H2 => ∃ a C, x = .ref a ∧ H2 a = some (ExO a C none) ∧ ClsX K C ∧ NoAttr K C f ∧
  ∀ p, H2 p = none → p ≠ a → D.nx σ (upd (upd H2 p (XdO p [(f, y)])) a (ExO a C (some p)))
def sXFld1 (K : Frag) (ta tv : TE) (f : Str) : TS := fun D σ H => tv σ H fun y H1 => ta σ H1 fun x H2 => ∃ a C dx fs, x = .ref a ∧ H2 a = some (ExO a C (some dx)) ∧ H2 dx = some (XdO dx fs) ∧ ClsX K C ∧ NoAttr K C f ∧ fs.length < 1000 ∧
  D.nx σ (upd H2 dx (XdO dx (putF f y fs)))
def clsV : V → Option Value
  | .ref a => some (.ref a)
  | .ty n => some (.type n)
  | _ => none
theorem clsV_eq {y : V} {c u : Value} (e : clsV y = some c) (r : RelV y u) : u = c := by
  cases y <;> cases e <;> exact r
def rInstX (K : Frag) : List V → Hp → VK → Prop := fun xs H Q => ∃ a C dx y c b, xs = [.ref a, y] ∧ clsV y = some c ∧ H a = some (ExO a C dx) ∧ (∀ p, dx = some p → ∃ fs, H p = some (XdO p fs)) ∧ ClsX K C ∧ kitOne K (.ref C) c = some b ∧ Q (.bl b) H
section
variable {X : Cx} {o e value : Expr} {f : Str} {pos pos' tpos : Pos} {ta tv : TE}
theorem pe_xfld (he : PE X e ta) (hb : attributeBase e f X.env (eval e X.env) = eval e X.env) : PE X (.Attribute e f pos) (tXFld X.K ta f) := by
  intro pins s σ H Q I h
  refine attr_of hb (thn (he pins s σ H _ I h) fun u s1 ⟨x, H1, I1, rx, a, C, dx, fs, v, ex, ea, ed, c, n, l, q⟩ => ?_)
  subst ex
  obtain rfl : u = Value.ref a := rx
  exact xget_ok I1 ea ed c n l fun u' s2 I2 ru => ⟨v, H1, I2, ru, q⟩
theorem ps_xfld0 (ha : PE X o ta) (hv : PE X value tv) (hs : swapsWith value (some (.Attribute o f pos')) pos.line X.env = pure false) : PS X (.Assign [.Attribute o f pos'] value pos) (sXFld0 X.K ta tv f) := by
  intro pins s σ H D I h
  refine plainObj_wpAny_Assign_Attribute (thn (hv pins s σ H _ I h) fun u s1 ⟨y, H1, I1, ry, q⟩ => thn (ha pins s1 σ H1 _ I1 q) fun ov s2 ⟨x, H2, I2, rx, a, C, ex, ea, c, n, q2⟩ => ?_) hs
  subst ex
  obtain rfl : ov = Value.ref a := rx
  exact xset0_ok I2 ea c n ry fun p s3 h1 h2 I3 => ⟨σ, _, I3, q2 p h1 h2⟩
theorem ps_xfld1 (ha : PE X o ta) (hv : PE X value tv) (hs : swapsWith value (some (.Attribute o f pos')) pos.line X.env = pure false) : PS X (.Assign [.Attribute o f pos'] value pos) (sXFld1 X.K ta tv f) := by
  intro pins s σ H D I h
  refine plainObj_wpAny_Assign_Attribute (thn (hv pins s σ H _ I h) fun u s1 ⟨y, H1, I1, ry, q⟩ => thn (ha pins s1 σ H1 _ I1 q) fun ov s2 ⟨x, H2, I2, rx, a, C, dx, fs, ex, ea, ed, c, n, l, q2⟩ => ?_) hs
  subst ex
  obtain rfl : ov = Value.ref a := rx
  exact xset1_ok I2 ea ed c n l ry fun s3 I3 => ⟨σ, _, I3, q2⟩
theorem call_instX : CallR X (.builtin "isinstance") (rInstX X.K) := by
  intro pins s σ H xs us Q I r h
  obtain ⟨a, C, dx, y, c, b, rfl, ry, ea, ed, cl, k, q⟩ := h
  obtain ⟨u, u2, rfl, rx, ry2⟩ := vals2 r
  obtain rfl : u = Value.ref a := rx
  obtain rfl := clsV_eq ry ry2
  exact xinst_ok I ea cl k ed fun tk => ⟨.bl b, H, I.tok tk, rfl, q⟩
end
end L2

set_option maxHeartbeats 4000000
namespace L2
open PySem PySem.Spec PyProof.Rows PySem.W
abbrev TJ := Str → St → Hp → VK → Prop
def PJ (X : Cx) (es : List Expr) (t : TJ) : Prop :=
  ∀ (pins : List (Addr × Obj)) (s : Shared) (σ : St) (H : Hp) (out : Str) (Q : VK), Inv X pins σ H s → t out σ H Q → wpAny (model X.prog X.w) X.A (joinParts out (evalEach es X.env)) (EP X pins σ Q) X.xe s
def jNil : TJ := fun out _ H Q => out.length ≤ sizeLine ∧ Q (.str out) H
def jCons (te : TE) (tr : TJ) : TJ := fun out σ H Q => te σ H fun x H1 => ∃ y : Str, x = .str y ∧ (out ++ y).length ≤ sizeLine ∧ tr (out ++ y) σ H1 Q
def tFmt (te : TE) : TE := fun σ H Q => te σ H fun x H1 => (∃ i : Int, x = .int i ∧ i.natAbs.log2 < 1920 ∧ Q (.str (toString i)) H1) ∨ ∃ y : Str, x = .str y ∧ y.length ≤ sizeLine ∧ Q (.str y) H1
section
variable {X : Cx} {e v1 v2 : Expr} {es : List Expr} {te : TE} {tr : TJ} {pos : Pos}
theorem pj_nil : PJ X [] jNil := fun pins s σ H out Q I ⟨h1, h2⟩ => joinParts_nil ⟨.str out, H, I.tok _, ⟨_, rfl⟩, h2⟩ h1
theorem pj_cons (he : PE X e te) (hr : PJ X es tr) (hs : evalEach (e :: es) X.env = eval e X.env :: evalEach es X.env := by rfl) : PJ X (e :: es) (jCons te tr) := by
  intro pins s σ H out Q I h
  rw [hs]
  refine joinParts_cons (thn (he pins s σ H _ I h) fun u s1 ⟨x, H1, I1, rx, y, ex, hl, q⟩ => ?_)
  subst ex
  obtain ⟨t, rfl⟩ := (show ∃ t, u = Value.str y t from rx)
  exact ⟨hl, hr pins s1 σ H1 _ Q I1 q⟩
theorem pe_joined (h : PJ X (v1 :: v2 :: es) tr) : PE X (.JoinedStr (v1 :: v2 :: es) pos) (tr Str.empty) := fun pins s σ H Q I q => JoinedStr_many (h pins s σ H _ Q I q)
theorem pe_fmt (he : PE X e te) : PE X (.FormattedValue e (-1) none pos) (tFmt te) := by
  intro pins s σ H Q I h
  refine FormattedValue_plain (thn (he pins s σ H _ I h) fun u s1 ⟨x, H1, I1, rx, q⟩ => ?_)
  rcases q with ⟨i, ex, hl, q⟩ | ⟨y, ex, hl, q⟩
  · subst ex
    obtain ⟨t, rfl⟩ := (show ∃ t, u = Value.int i t from rx)
    exact formatField_int_small hl ⟨.str (toString i), H1, I1.tok _, ⟨_, rfl⟩, q⟩
  · subst ex
    obtain ⟨t, rfl⟩ := (show ∃ t, u = Value.str y t from rx)
    exact formatField_str (fun t' tk => ⟨.str y, H1, I1.tok _, ⟨_, rfl⟩, q⟩) hl
end
abbrev veMro : List Value := [.type "ValueError", .type "Exception", .type "BaseException", .type "object"]
def ExC (K : Frag) (C : Addr) : Prop := ∃ nm q N bs bm hdct sn sub ab col dd k0 k1 k2 k3 k5, K.lookup C = some (excClassObj nm q C N bs bm hdct sn sub ab col dd k0 k1 k2 k3 k5 "ValueError.__new__") ∧ ∀ h, K.In h → OwnTail h veMro bm
theorem upd_self {H : Hp} {a : Addr} {o : HO} (e : H a = some o) : upd H a o = H := by
  funext b
  by_cases hb : b = a
  · subst hb; rw [upd_same, e]
  · rw [upd_ne hb]
section
variable {X : Cx} {pins : List (Addr × Obj)} {σ : St} {H : Hp} {s : Shared} {a C B : Addr} {dx : Option Addr} {A : Around} {E : Value → Shared → Prop}
theorem xinit_ok {u : Value} {Q : Value → Shared → Prop} (I : Inv X pins σ H s) (e : H a = some (ExO a C dx)) (c : ExC X.K C) (h : ∀ s', Inv X pins σ H s' → Q .none s') :
    wpAny (model X.prog X.w) A (call (.builtin "ValueError.__init__") [.ref a, u]) Q E s := by
  obtain ⟨nm, q, N, bs, bm, hdct, sn, sub, ab, col, dd, k0, k1, k2, k3, k5, hc, T⟩ := c
  obtain ⟨t0, a1, a2, a3, a4, a5, hx⟩ := exO_get I.hok e
  obtain ⟨hh, g, d, t, os⟩ := s
  refine exc_init PySem.F.excBase_ValueError (T _ I.kIn) (I.kIn _ _ hc) hx fun h' k hx' => h _ ?_
  have z := I.write (x := a) (e := a) (o := ExO a C dx) (t' := t) (h' := h') (by rw [e]; exact True.intro) (.inl rfl) (fun b o hb q => k b o hb q) ⟨_, hx'⟩ (exO_ok hx')
  rwa [upd_self e] at z
def tXInit (K : Frag) (t : TA) : TE := fun σ H Q => t σ H fun vs H1 => ∃ a C dx y, vs = [.ref a, y] ∧ H1 a = some (ExO a C dx) ∧ ExC K C ∧ Q .non H1
theorem pe_xinit {x : Str} {e1 : Expr} {es : List Expr} {t : TA} {p apos pos : Pos} {pl : Sem Bool} (hg : Gl X x) (hm : X.mg x = some (.ref B)) (hs : specialIn X.K (.ref B) "__getattribute__" = some (some (.builtin "type.__getattribute__")))
    (hr : readsIn X.K B (.type "type") = true) (hf : findCls X.K (.ref B) (.type "type") "__init__" = some (.val (.builtin "ValueError.__init__"))) (ha : PA X (e1 :: es) t)
    (hdb : (x == ("__debug__" : Str)) = false := by decide) (he : starEach (e1 :: es) X.env = (false, eval e1 X.env) :: starEach es X.env := by rfl) (hpl : (backTo pos (starEach es X.env)).any (·.1) = false := by rfl)
    (ht : eval (.Call (.Attribute (.Name x p) "__init__" apos) (e1 :: es) [] pos) X.env = (do
      let ov ← eval (.Name x p) X.env
      standAt apos.atName
      let (f, first) ← holding [ov] (getMethod ov "__init__" pl)
      callWith pos f first (backTo pos (starEach (e1 :: es) X.env)) (backToKw pos (keywordEach [] X.env))) := by rfl) :
    PE X (.Call (.Attribute (.Name x p) "__init__" apos) (e1 :: es) [] pos) (tXInit X.K t) := by
  intro pins s σ H Q I h
  refine PySem.W.methodCall_KW (pl := pl) (ld_glob I hg hm ?_ hdb) ht
  refine method_cls I.kIn hs (cls_value I.kIn hr hf rfl ?_)
  have I0 : Inv X pins σ H { s with toks := s.toks + 1 } := I.tok _
  refine PyProof.Rows.callWith_builtin1 (thn (ha pos pins _ σ H _ I0 h) fun us s1 ⟨vs, H1, I1, r1, a, C, dx, y, ev, ea, c, q1⟩ => ?_) he hpl
  subst ev
  obtain ⟨u, u2, rfl, rx, _⟩ := vals2 r1
  obtain rfl : u = Value.ref a := rx
  exact xinit_ok I1 ea c fun s' I' => ⟨.non, H1, I', rfl, q1⟩
end
end L2

set_option maxHeartbeats 4000000
namespace L2
open PySem PySem.Spec PyProof.Rows PySem.W
def tMakeX (C : Addr) (sp : Sp) (dvs : List V) (E : XK) (t : TA) : TE := fun σ H Q => t σ H fun vs H1 => ∀ x, H1 x = none →
  sp (.ref x :: (vs ++ dvs)) (upd H1 x (ExO x C none)) (fun v H2 => v = .non ∧ Q (.ref x) H2) E
def tMakeX0 (C : Addr) (t : TA) : TE := fun σ H Q => t σ H fun vs H1 => vs.length = 1 ∧ ∀ x, H1 x = none → Q (.ref x) (upd H1 x (ExO x C none))
section
variable {X : Cx} {CX : CXT} {k : Nat} {f C : Addr} {fd : FuncData} {ps : List Str} {sp : Sp} {dvs : List V} {ds : List Value} {E : XK} {x : Str} {p pos : Pos} {e : Expr} {es : List Expr} {t : TA}
theorem Inv.madeX {pins : List (Addr × Obj)} {σ : St} {H : Hp} {s : Shared} {us : List Value} (I : Inv X pins σ H s) : Inv X pins σ (upd H (s.heap.objs.size + 1) (ExO (s.heap.objs.size + 1) C none))
    { s with heap := (s.heap.push { cls := .type "tuple", data := .seq us.toArray }).push (excObj C none #[.ref s.heap.objs.size, .none, .none, .none, .bool false, .none]) } := by
  have hget : ((s.heap.push { cls := .type "tuple", data := .seq us.toArray }).push (excObj C none #[.ref s.heap.objs.size, .none, .none, .none, .bool false, .none])).get? (s.heap.objs.size + 1) = some (excObj C none #[.ref s.heap.objs.size, .none, .none, .none, .bool false, .none]) := by heap_get
  exact I.laid (a := s.heap.objs.size + 1) (t' := s.toks) (fun b u q => Heap.get?_push_of_some _ (Heap.get?_push_of_some _ q)) (Nat.le_succ _) (exO_ok hget)
theorem run_makeX {pins : List (Addr × Obj)} {σ : St} {H : Hp} {s : Shared} {Q : VK} {us : List Value} {vs : List V} (c : ExC X.K C) (hi : findIn X.K (.ref C) "__init__" = some (some (.ref f))) (hf : isFn X.K (.ref f) = true)
    (F : FnOk X.prog X.w X.K X.mg X.base CX k f fd ps sp) (hr : Room (k + 1) X.A) (hb : Binds X.K fd ps ds) (hd : Vals dvs ds) (hx : Passes CX X E) (I : Inv X pins σ H s) (r : Vals vs us) (hps : ps.length ≤ 1000)
    (h : ∀ x, H x = none → sp (.ref x :: (vs ++ dvs)) (upd H x (ExO x C none)) (fun v H2 => v = .non ∧ Q (.ref x) H2) E) :
    wpAny (model X.prog X.w) X.A (call (.ref C) us) (EP X pins σ Q) X.xe s := by
  have hq := h (s.heap.objs.size + 1) (I.hok.fresh (Nat.le_succ _))
  have I2 := Inv.madeX (C := C) (us := us) I
  have r2 : Vals (V.ref (s.heap.objs.size + 1) :: (vs ++ dvs)) (Value.ref (s.heap.objs.size + 1) :: (us ++ ds)) := .cons rfl (r.append hd)
  have hl : (Value.ref (s.heap.objs.size + 1) :: us ++ ds).length = ps.length := by
    have e := r2.length
    rw [F.len _ _ _ _ hq] at e
    exact e.symm
  have hus : us.length ≤ sizeLine := by
    have : us.length ≤ ps.length := by rw [← hl, List.length_append, List.length_cons]; omega
    exact Nat.le_trans this (Nat.le_trans hps (by decide))
  obtain ⟨nm, q, N, bs, bm, hdct, sn, sub, ab, col, dd, k0, k1, k2, k3, k5, hc, T⟩ := c
  refine wpAny_call (exc_make PySem.F.excBase_ValueError (T _ I.kIn) (I.kIn _ _ hc) (looks_findIn I.kIn hi) (fun self => bind_fn I.kIn self (beq_iff_eq.mp hf)) hus
    (codeAny_mono (F.run _ X.stack _ _ ⟨Value.ref (s.heap.objs.size + 1) :: us, []⟩ (Value.ref (s.heap.objs.size + 1) :: (us ++ ds)) _ _ E (hr.make C us [])
    (I2.env0.make C us []) (hb _ (Value.ref (s.heap.objs.size + 1) :: us) I2.kIn hl) r2 hq) fun r s' hq' => ?_))
  cases r with
  | error e => exact hx pins σ _ _ e s' I2 hq'
  | ok fl =>
    cases fl with
    | ret u =>
      obtain ⟨v, H', I3, rv, ev, q3⟩ := I2.after hq'
      subst ev
      exact ⟨rv, ⟨V.ref (s.heap.objs.size + 1), H', I3, rfl, q3⟩⟩
    | next => exact False.elim hq'
    | brk => exact False.elim hq'
    | cont => exact False.elim hq'
theorem pe_makeX (c : ExC X.K C) (hi : findIn X.K (.ref C) "__init__" = some (some (.ref f))) (hf : isFn X.K (.ref f) = true) (hkp : keepIn X.K (.ref C) = true)
    (F : FnOk X.prog X.w X.K X.mg X.base CX k f fd ps sp) (hr : Room (k + 1) X.A) (hg : Gl X x) (hm : X.mg x = some (.ref C)) (hb : Binds X.K fd ps ds) (hd : Vals dvs ds) (hx : Passes CX X E) (hps : ps.length ≤ 1000)
    (ha : PA X (e :: es) t) (hdb : (x == ("__debug__" : Str)) = false := by decide) (he : starEach (e :: es) X.env = (false, eval e X.env) :: starEach es X.env := by rfl) (hpl : (backTo pos (starEach es X.env)).any (·.1) = false := by rfl) :
    PE X (.Call (.Name x p) (e :: es) [] pos) (tMakeX C sp dvs E t) := by
  intro pins s σ H Q I h
  refine wpAny_Call_Name_kw (ld_glob I hg hm ?_ hdb)
  refine PySem.W.callWith_K (h₀ := X.base) I.ok.mod.kin hkp (thn (ha pos pins s σ H _ I h) fun us s1 ⟨vs, H1, I1, r, q⟩ => ⟨I1.kIn, ?_⟩) he hpl
  exact run_makeX c hi hf F hr hb hd hx I1 r hps q
theorem pe_makeX0 (c : ExC X.K C) (hi : findIn X.K (.ref C) "__init__" = some (some (.builtin "ValueError.__init__"))) (hkp : keepIn X.K (.ref C) = true) (hg : Gl X x) (hm : X.mg x = some (.ref C))
    (ha : PA X (e :: es) t) (hdb : (x == ("__debug__" : Str)) = false := by decide) (he : starEach (e :: es) X.env = (false, eval e X.env) :: starEach es X.env := by rfl) (hpl : (backTo pos (starEach es X.env)).any (·.1) = false := by rfl) :
    PE X (.Call (.Name x p) (e :: es) [] pos) (tMakeX0 C t) := by
  intro pins s σ H Q I h
  refine wpAny_Call_Name_kw (ld_glob I hg hm ?_ hdb)
  refine PySem.W.callWith_K (h₀ := X.base) I.ok.mod.kin hkp (thn (ha pos pins s σ H _ I h) fun us s1 ⟨vs, H1, I1, r, hl1, q⟩ => ⟨I1.kIn, ?_⟩) he hpl
  obtain ⟨u, rfl⟩ : ∃ u, us = [u] := List.length_eq_one_iff.mp (r.length.symm.trans hl1)
  have hq := q (s1.heap.objs.size + 1) (I1.hok.fresh (Nat.le_succ _))
  have I2 := Inv.madeX (C := C) (us := [u]) I1
  obtain ⟨nm, q', N, bs, bm, hdct, sn, sub, ab, col, dd, k0, k1, k2, k3, k5, hc, T⟩ := c
  have hx : (upd H1 (s1.heap.objs.size + 1) (ExO (s1.heap.objs.size + 1) C none)) (s1.heap.objs.size + 1) = some (ExO (s1.heap.objs.size + 1) C none) := upd_same
  refine wpAny_call (exc_make PySem.F.excBase_ValueError (T _ I1.kIn) (I1.kIn _ _ hc) (looks_findIn I1.kIn hi) (fun self => Looks.of_pure (PySem.F.excBase_ValueError.init.bind self)) (show 1 ≤ sizeLine by decide) ?_)
  have hget : ((s1.heap.push { cls := .type "tuple", data := .seq [u].toArray }).push (excObj C none #[.ref s1.heap.objs.size, .none, .none, .none, .bool false, .none])).get? (s1.heap.objs.size + 1) = some (excObj C none #[.ref s1.heap.objs.size, .none, .none, .none, .bool false, .none]) := by heap_get
  refine exc_init' PySem.F.excBase_ValueError (T _ I2.kIn) (I2.kIn _ _ hc) hget fun h' k hx' => ⟨rfl, V.ref (s1.heap.objs.size + 1), _, ?_, rfl, hq⟩
  have z := I2.write (x := s1.heap.objs.size + 1) (e := s1.heap.objs.size + 1) (o := ExO (s1.heap.objs.size + 1) C none) (t' := s1.toks) (h' := h') (by rw [hx]; exact True.intro) (.inl rfl) (fun b o hb q => k b o hb q) ⟨_, hx'⟩ (exO_ok hx')
  rwa [upd_self hx] at z
end
end L2

set_option maxHeartbeats 4000000
namespace L2
open PySem PySem.Spec PyProof.Rows PySem.W
def strKeysB (es : Array DictEntry) : Bool := es.toList.all fun e => match e.key with | .str _ _ => true | _ => false
theorem strKeys_of {es : Array DictEntry} (e : strKeysB es = true) : StrKeys es := by
  intro d hd
  have := List.all_eq_true.mp e d (Array.mem_toList_iff.mpr hd)
  split at this
  · rename_i x t q; exact ⟨x, t, q⟩
  · cases this
theorem ns_of {K : Frag} {N : Addr} {oN : Value} {dN : Option Addr} {es : Array DictEntry} {nn : Nat} {sl : Array (Option Value)} {h : Heap} (X : K.In h) (l : K.lookup N = some ⟨oN, dN, .dict es nn, sl⟩) (e : strKeysB es = true) : h.Ns N (nsFind es) :=
  ⟨_, es, nn, X _ _ l, rfl, strKeys_of e, fun _ => rfl⟩
section
variable {K : Frag} {C D N HE M : Addr} {nm q nm' q' : Str} {bs bs' bm bm' : List Value} {sn sn' : List Str} {sub sub' : List Value} {ab ab' hdct hdct' : Bool} {col col' : Option Bool} {dd dd' : Option Addr} {k0 k1 k2 k3 k5 j0 j1 j2 j3 j5 : Option Value} {oN : Value} {dN : Option Addr} {es : Array DictEntry} {nn : Nat} {sl : Array (Option Value)} {i i' : String}
theorem exC_he (l : K.lookup HE = some (excClassObj nm q HE N bs veMro hdct sn sub ab col dd k0 k1 k2 k3 k5 "ValueError.__new__")) : ExC K HE :=
  ⟨_, _, _, _, _, _, _, _, _, _, _, _, _, _, _, _, l, fun h X => .base⟩
theorem exC_sub (l : K.lookup HE = some (excClassObj nm q HE N bs veMro hdct sn sub ab col dd k0 k1 k2 k3 k5 i)) (n : K.lookup N = some ⟨oN, dN, .dict es nn, sl⟩) (e : strKeysB es = true) (hi : nsFind es "__init__" = none)
    (l' : K.lookup C = some (excClassObj nm' q' C M bs' (.ref HE :: veMro) hdct' sn' sub' ab' col' dd' j0 j1 j2 j3 j5 "ValueError.__new__")) : ExC K C :=
  ⟨_, _, _, _, _, _, _, _, _, _, _, _, _, _, _, _, l', fun h X => .own (X _ _ l) (ns_of X n e) hi .base⟩
theorem clsIn_of (l : K.lookup C = some (excClassObj nm q C N bs bm hdct sn sub ab col dd k0 k1 k2 k3 k5 i)) : ∃ cd, clsIn K C = some cd ∧ cd.mro = .ref C :: bm ∧ cd.hasDict = hdct := ⟨_, by unfold clsIn; rw [l], rfl, rfl⟩
theorem mro_of {b : Value} (l : K.lookup C = some (excClassObj nm q C N bs bm hdct sn sub ab col dd k0 k1 k2 k3 k5 i)) : mroIn K C b = some ((Value.ref C :: bm).contains b) := by
  obtain ⟨cd, h1, h2, _⟩ := clsIn_of l
  unfold mroIn
  rw [h1, Option.bind_some, h2, if_neg (by simp)]
theorem kit_ref (l : K.lookup C = some (excClassObj nm q C N bs bm hdct sn sub ab col dd k0 k1 k2 k3 k5 i)) (l' : K.lookup D = some (excClassObj nm' q' D M bs' bm' hdct' sn' sub' ab' col' dd' j0 j1 j2 j3 j5 i')) :
    kitOne K (.ref C) (.ref D) = some ((Value.ref C :: bm).contains (.ref D)) := by
  unfold kitOne
  by_cases e : (Value.ref C == Value.ref D) = true
  · rw [if_pos e, eq_of_beq e]; simp
  · rw [if_neg e]
    obtain ⟨cd, h1, _⟩ := clsIn_of l'
    have h2 : typeIn K (.ref D) = some (.type "type") := by show (K.lookup D).map (·.cls) = _; rw [l']; rfl
    show (if ((clsIn K D).isSome && typeIn K (.ref D) == some (.type "type")) = true then mroIn K C (.ref D) else none) = _
    rw [h1, h2, if_pos (by simp), mro_of l]
theorem kit_ve {n : String} (hn : kitMeta n = true) (l : K.lookup C = some (excClassObj nm q C N bs bm hdct sn sub ab col dd k0 k1 k2 k3 k5 i)) : kitOne K (.ref C) (.type n) = some ((Value.ref C :: bm).contains (.type n)) := by
  unfold kitOne
  rw [if_neg (by intro z; cases eq_of_beq z)]
  show (if kitMeta n = true then mroIn K C (.type n) else none) = _
  rw [if_pos hn, mro_of l]
theorem clsX_of (l : K.lookup C = some (excClassObj nm q C N bs bm true sn sub ab col dd k0 k1 k2 k3 k5 i)) (hb : onlyVE bm = true) (hbe : bm.contains (.type "BaseException") = true)
    (ga : findIn K (.ref C) "__getattribute__" = some (some (.builtin "BaseException.__getattribute__"))) (nga : findIn K (.ref C) "__getattr__" = some none)
    (sa : findIn K (.ref C) "__setattr__" = some (some (.builtin "object.__setattr__"))) (cl : findIn K (.ref C) "__class__" = some (some (.builtin "object.__class__")))
    (cg : specialIn K (.builtin "object.__class__") "__get__" = some (some (.builtin "getset_descriptor.__get__"))) (ct : takesIn K (.builtin "object.__class__") = some true) : ClsX K C := by
  obtain ⟨cd, h1, h2, h3⟩ := clsIn_of l
  refine ⟨ga, ?_, nga, ?_, ?_, ?_, sa, cl, cg, ct⟩
  · rw [mro_of l, List.contains_cons, hbe, Bool.or_true]
  · rw [mro_of l, List.contains_cons, onlyVE_has hb, Bool.or_true]
  · unfold hasDictIn; rw [h1]; exact h3
  · unfold overVE; rw [h1]; show onlyVE cd.mro = true; rw [h2, onlyVE_ref]; exact hb
end
end L2
namespace L2
open PySem PySem.Spec PyProof.Rows PySem.W
structure XIn (K : Frag) (C : Addr) (qual : Str) (st : Stmt) (ps : List Str) (f : Addr) (fd : FuncData) : Prop where
  F : Fun K "__init__" qual st f fd
  b : Binds K fd ps []
  i : findIn K (.ref C) "__init__" = some (some (.ref f))
  fn : isFn K (.ref f) = true
  kp : keepIn K (.ref C) = true
  sm : ps.length ≤ 1000
theorem boot_ValueError : bootBuiltins "ValueError" = some (.type "ValueError") := by decide +kernel
theorem txtI {i : Int} (h : i.natAbs.log2 < 1920) : (Str.ofString (toString i)).length ≤ 5000 := by
  have e := int_text_length_le (k := 1920) (by decide) h
  rw [PySem.ofString_length]; omega
section
variable {X : Cx} {k : Nat} {f C : Addr} {fd : FuncData} {ps : List Str} {sp : Sp} {x qual : Str} {st : Stmt} {p pos pos' : Pos} {e o value : Expr} {es : List Expr} {t : TA} {ta tv : TE} {g : Str}
theorem xmake (A : XIn X.K C qual st ps f fd) (G : FnOk X.prog X.w X.K X.mg X.base CX0 k f fd ps sp) (hr : Room (k + 1) X.A) (hm : X.mg x = some (.ref C)) (c : ExC X.K C) (ha : PA X (e :: es) t) (hg : Gl X x := by rfl)
    (hdb : (x == ("__debug__" : Str)) = false := by decide) (he : starEach (e :: es) X.env = (false, eval e X.env) :: starEach es X.env := by rfl) (hpl : (backTo pos (starEach es X.env)).any (·.1) = false := by rfl) :
    PE X (.Call (.Name x p) (e :: es) [] pos) (tMakeX C sp [] E0 t) := pe_makeX c A.i A.fn A.kp G hr hg hm A.b .nil pass0 A.sm ha hdb he hpl
theorem pgl_ref {y : Addr} (h : X.mg x = some (.ref y)) (hg : Gl X x := by rfl) (hd : (x == ("__debug__" : Str)) = false := by decide) : PE X (.Name x pos) (tC (.ref y)) := pe_glob hg h rfl hd
theorem qs_xfld0 (ha : PE X o ta) (hv : PE X value tv) (hs : swapsWith value (some (.Attribute o g pos')) pos.line X.env = pure false := by rfl) : QS X (.Assign [.Attribute o g pos'] value pos) (sXFld0 X.K ta tv g) := ⟨ps_xfld0 ha hv hs⟩
theorem qs_xfld1 (ha : PE X o ta) (hv : PE X value tv) (hs : swapsWith value (some (.Attribute o g pos')) pos.line X.env = pure false := by rfl) : QS X (.Assign [.Attribute o g pos'] value pos) (sXFld1 X.K ta tv g) := ⟨ps_xfld1 ha hv hs⟩
end
structure Fam (K : Frag) (C : Nat → Addr) : Prop where
  x : ∀ i, i ≤ 13 → ClsX K (C i)
  c : ∀ i, i ≤ 13 → ExC K (C i)
  k : ∀ i j, i ≤ 13 → j ≤ 13 → kitOne K (.ref (C i)) (.ref (C j)) = some (decide (i = j) || decide (j = 13))
  v : ∀ i, i ≤ 13 → kitOne K (.ref (C i)) (.type "ValueError") = some true
def IsX (C : Nat → Addr) (H : Hp) (a : Addr) (i : Nat) (fs : List (Str × V)) : Prop := ∃ dx, H a = some (ExO a (C i) dx) ∧ ((dx = none ∧ fs = []) ∨ ∃ p, dx = some p ∧ H p = some (XdO p fs))
theorem IsX.same {C : Nat → Addr} {H H' : Hp} {a : Addr} {i : Nat} {fs : List (Str × V)} (x : IsX C H a i fs) (s : Same H H') : IsX C H' a i fs := by
  obtain ⟨dx, h1, h2⟩ := x
  exact ⟨dx, s _ _ h1, h2.imp id fun ⟨p, e, h3⟩ => ⟨p, e, s _ _ h3⟩⟩
end L2

set_option maxHeartbeats 4000000
namespace L2
open PySem PySem.Spec PyProof.Rows PySem.W
theorem put2 {H : Hp} {p q : Addr} {o u : HO} (hq : upd H p o q = none) : upd (upd H p o) q u p = some o := Same.new hq _ _ upd_same
theorem QblT {Q : VK} {H : Hp} {c : Prop} [Decidable c] (h : c) (q : Q (.bl true) H) : Q (.bl (decide c)) H := by rw [decide_eq_true h]; exact q
theorem isx_new {C : Nat → Addr} {H : Hp} {x p : Addr} {i : Nat} {fs : List (Str × V)} (hx : H x = none) (hp : upd H x (ExO x (C i) none) p = none) (hne : p ≠ x) :
    Same H (upd (upd (upd H x (ExO x (C i) none)) p (XdO p fs)) x (ExO x (C i) (some p))) ∧ IsX C (upd (upd (upd H x (ExO x (C i) none)) p (XdO p fs)) x (ExO x (C i) (some p))) x i fs :=
  ⟨((Same.new hx).put hp).over hx, some p, upd_same, .inr ⟨p, rfl, by rw [upd_ne hne, upd_same]⟩⟩
theorem isx_fld {C : Nat → Addr} {H : Hp} {a : Addr} {i : Nat} {g : Str} {v : V} {fs : List (Str × V)} (x : IsX C H a i ((g, v) :: fs)) : ∃ p, H a = some (ExO a (C i) (some p)) ∧ H p = some (XdO p ((g, v) :: fs)) := by
  obtain ⟨dx, h1, ⟨_, h2⟩ | ⟨p, e, h2⟩⟩ := x
  · cases h2
  · subst e; exact ⟨p, h1, h2⟩
theorem IsX.dict {C : Nat → Addr} {H : Hp} {a : Addr} {i : Nat} {fs : List (Str × V)} (x : IsX C H a i fs) : ∃ dx, H a = some (ExO a (C i) dx) ∧ ∀ p, dx = some p → ∃ fs, H p = some (XdO p fs) := by
  obtain ⟨dx, h1, h2⟩ := x
  refine ⟨dx, h1, fun p e => ?_⟩
  rcases h2 with ⟨z, _⟩ | ⟨p', e', h3⟩
  · rw [z] at e; cases e
  · rw [e'] at e; cases e; exact ⟨_, h3⟩
end L2

set_option maxHeartbeats 4000000
namespace L2
open PySem PySem.Spec PyProof.Rows PySem.W
def ClAt (K : Frag) (C : Addr) (bm : List Value) : Prop := ∃ nm q N bs sn sub ab col dd k0 k1 k2 k3 k5, K.lookup C = some (excClassObj nm q C N bs bm true sn sub ab col dd k0 k1 k2 k3 k5 "ValueError.__new__")
def bmAt (HE : Addr) (i : Nat) : List Value := if i = 13 then veMro else .ref HE :: veMro
theorem ve_ref (a : Addr) : veMro.contains (.ref a) = false := rfl
theorem fam_of {K : Frag} {cs : List Addr} (hl : cs.length = 14) (nd : cs.Nodup) (L : ∀ i, i ≤ 13 → ClAt K (cs.getD i 0) (bmAt (cs.getD 13 0) i))
    (x : ∀ i, i ≤ 13 → ClsX K (cs.getD i 0)) (c : ∀ i, i ≤ 13 → ExC K (cs.getD i 0)) : Fam K (fun i => cs.getD i 0) := by
  have inj : ∀ i j, i ≤ 13 → j ≤ 13 → (Value.ref (cs.getD j 0) == Value.ref (cs.getD i 0)) = decide (i = j) := fun i j hi hj => by
    have h1 : i < cs.length := by omega
    have h2 : j < cs.length := by omega
    rw [List.getD_eq_getElem?_getD, List.getD_eq_getElem?_getD, List.getElem?_eq_getElem h1, List.getElem?_eq_getElem h2, Option.getD_some, Option.getD_some]
    by_cases e : i = j
    · subst e; simp
    · rw [decide_eq_false e, beq_eq_false_iff_ne]
      intro z
      exact e ((List.getElem_inj nd).mp (Value.ref.inj z)).symm
  refine ⟨x, c, fun i j hi hj => ?_, fun i hi => ?_⟩
  · obtain ⟨nm, q, N, bs, sn, sub, ab, col, dd, k0, k1, k2, k3, k5, l⟩ := L i hi
    obtain ⟨nm', q', N', bs', sn', sub', ab', col', dd', j0, j1, j2, j3, j5, l'⟩ := L j hj
    rw [kit_ref l l', List.contains_cons, inj i j hi hj]
    congr 1
    unfold bmAt
    by_cases e : i = 13
    · rw [if_pos e, ve_ref, Bool.or_false]
      subst e
      by_cases z : (13 : Nat) = j
      · subst z; rfl
      · rw [decide_eq_false z, decide_eq_false (fun y => z y.symm)]; rfl
    · rw [if_neg e, List.contains_cons, inj 13 j (by decide) hj, ve_ref, Bool.or_false]
      congr 1
      exact decide_eq_decide.mpr eq_comm
  · obtain ⟨nm, q, N, bs, sn, sub, ab, col, dd, k0, k1, k2, k3, k5, l⟩ := L i hi
    rw [kit_ve (by decide +kernel) l]
    unfold bmAt
    split <;> simp
end L2

set_option maxHeartbeats 4000000
namespace Mine
open PySem PySem.Spec PyProof.Rows L2
def top (i : Nat) : Stmt := PySem.Challenge.pw_drawhouse_k16_refusals_apart.main.body.getD i (.Pass ⟨0, 0, 0, 0⟩)
def clsBody : Stmt → List Stmt
  | .ClassDef _ _ _ b _ _ _ _ _ _ _ => b
  | _ => []
abbrev s_i_NoText : Stmt := (clsBody (top 4)).getD 0 (.Pass ⟨0, 0, 0, 0⟩)
abbrev s_i_TooMany : Stmt := (clsBody (top 5)).getD 0 (.Pass ⟨0, 0, 0, 0⟩)
abbrev s_i_Twice : Stmt := (clsBody (top 6)).getD 0 (.Pass ⟨0, 0, 0, 0⟩)
abbrev s_i_Double : Stmt := (clsBody (top 7)).getD 0 (.Pass ⟨0, 0, 0, 0⟩)
abbrev s_i_Orphan : Stmt := (clsBody (top 8)).getD 0 (.Pass ⟨0, 0, 0, 0⟩)
abbrev s_i_Clash : Stmt := (clsBody (top 9)).getD 0 (.Pass ⟨0, 0, 0, 0⟩)
abbrev s_i_NoRow : Stmt := (clsBody (top 10)).getD 0 (.Pass ⟨0, 0, 0, 0⟩)
abbrev s_i_NoPart : Stmt := (clsBody (top 11)).getD 0 (.Pass ⟨0, 0, 0, 0⟩)
abbrev s_i_NoDrop : Stmt := (clsBody (top 12)).getD 0 (.Pass ⟨0, 0, 0, 0⟩)
abbrev s_i_NoName : Stmt := (clsBody (top 13)).getD 0 (.Pass ⟨0, 0, 0, 0⟩)
abbrev s_i_Fault : Stmt := (clsBody (top 14)).getD 0 (.Pass ⟨0, 0, 0, 0⟩)
abbrev s_law_cell : Stmt := top 16
abbrev s_law_sub : Stmt := top 17
abbrev s_law_number : Stmt := top 18
abbrev s_law_pick : Stmt := top 19
abbrev s_law_name : Stmt := top 20
abbrev s_law_flags : Stmt := top 21
abbrev s_law_placed : Stmt := top 22
abbrev s_law_worded : Stmt := top 23
abbrev s_law_keeps : Stmt := top 24
abbrev s_law_fault : Stmt := top 25
abbrev s_law : Stmt := top 26

section
variable {P : Program} {w : World} {K : PySem.W.Frag} {mg : Str → Option Value} {base : Heap}
abbrev psCell : List Str := ["_law_script", "_law_k"]
theorem scCell : FnScope ["_law_script", "_law_k"] psCell (defScope s_law_cell) := ⟨rfl, rfl, rfl, by decide +kernel, rfl, by decide +kernel, by decide +kernel⟩
theorem ok_cell {f : Addr} {fd : FuncData} (F : Fun K "_law_cell" "_law_cell" s_law_cell f fd) (hlen : mg "len" = none) : FnOk P w K mg base CX0 1 f fd psCell (spCell K) := by
  refine F.ok scCell (fun vs H Q E h => ?_) (fun cdv A outer s H vs Q E hr h => ?_)
  · obtain ⟨a, ns, k, rfl, _⟩ := h
    rfl
  · obtain ⟨a, ns, k, rfl, hS, h0, q⟩ := h
    refine ⟨_, pss_cons (ps_if (pt_cmpR op_lt (pv 1) (pe_callB call_len_seq (by rfl) hlen PySem.boot_len (pa_cons (pv 0) pa_nil)) (nomark _))
        (pss_one (ps_ret (pe_op op_and (pe_ix ix_list (pv 0) (pv 1) (fun _ _ => rfl)) (pe_op op_sub (pe_op op_shl pe_int pe_int) pe_int)))) pss_nil)
      (pss_one (ps_ret pe_int)), ?_⟩
    refine ⟨_, rfl, _, rfl, a, _, rfl, .inl hS, _, _, rfl, rfl, _, rfl, ?_⟩
    rw [List.length_map]
    refine ite2d (fun hk => ?_) (fun hk => ?_)
    · have hk2 : ns[k.toNat]? = some (ns.getD k.toNat 0) := by
        rw [List.getD_eq_getElem?_getD, List.getElem?_eq_getElem (by omega)]
        rfl
      have hk3 : (ns.map V.int)[k.toNat]? = some (V.int (ns.getD k.toNat 0)) := by rw [List.getElem?_map, hk2]; rfl
      have hat : atI (ns.map V.int) k = some (V.int (ns.getD k.toNat 0)) := by
        have := atI_nat hk3
        rwa [show ((k.toNat : Nat) : Int) = k from by omega] at this
      refine ⟨_, rfl, _, rfl, a, _, _, _, rfl, rfl, hS, hat, _, _, rfl, rfl, ⟨by decide, by decide, by decide⟩, _, _, rfl, rfl, _, _, rfl, rfl, ?_⟩
      have e : cell ns k = Builtin.bitAnd (ns.getD k.toNat 0) (1 * 2 ^ (16000 : Int).toNat - 1) := if_pos hk
      have q' := q H (Same.refl H)
      rw [e] at q'
      exact q'
    · have e : cell ns k = 0 := if_neg hk
      have q' := q H (Same.refl H)
      rw [e] at q'
      exact q'
abbrev psSub : List Str := ["_law_cell_here", "_law_j"]
theorem scSub : FnScope ["_law_cell_here", "_law_j"] psSub (defScope s_law_sub) := ⟨rfl, rfl, rfl, by decide +kernel, rfl, by decide +kernel, by decide +kernel⟩
theorem ok_sub {f : Addr} {fd : FuncData} (F : Fun K "_law_sub" "_law_sub" s_law_sub f fd) : FnOk P w K mg base CX0 1 f fd psSub spSub := by
  refine F.ok scSub (fun vs H Q E h => ?_) (fun cdv A outer s H vs Q E hr h => ?_)
  · obtain ⟨c, j, rfl, _⟩ := h
    rfl
  · obtain ⟨c, j, rfl, h0, h1, q⟩ := h
    refine ⟨_, pss_cons (ps_if (pw_and (pt_cmpR op_eq (pe_op op_mod (pv 0) pe_int) pe_int (nomark _)) (pw_and1 (pt_cmpR op_gt (pe_op op_shr (pv 0) (pe_op op_add (pe_op op_mul pe_int (pv 1)) pe_int)) pe_int (nomark _)))).pt
        (pss_one (ps_ret (pe_op op_or (pe_op op_shr (pv 0) (pe_op op_mul pe_int (pv 1))) pe_int))) pss_nil)
      (pss_one (ps_ret (pe_op op_mul (pe_op op_add (pe_op op_fdiv (pe_op op_fdiv (pv 0) pe_int) (pe_op op_add (pv 1) pe_int)) (pe_op op_mul pe_int (pv 1))) pe_int))), ?_⟩
    have q' := q H (Same.refl H)
    have tail : sub c j = subB c j → tRet (tOp (rI CMul fun i j => .int (i * j)) (tOp (rI0 fun i j => .int (i + j)) (tOp (rI CDiv fun i j => .int (i / j)) (tOp (rI CDiv fun i j => .int (i / j)) (tVar 0) (tC (.int 2))) (tOp (rI0 fun i j => .int (i + j)) (tVar 1) (tC (.int 1)))) (tOp (rI CMul fun i j => .int (i * j)) (tC (.int 104729)) (tVar 1))) (tC (.int 2)))
        { nx := fun _ H' => Q .non H', rt := Q } (start ["_law_cell_here", "_law_j"] [V.int c, V.int j]) H := fun e => by
      rw [e] at q'
      exact ⟨_, rfl, _, _, rfl, rfl, ⟨by decide, by decide⟩, _, rfl, _, _, rfl, rfl, _, _, rfl, rfl, ⟨by omega, by omega⟩, _, rfl, _, _, rfl, rfl, .inl ⟨by decide, by decide⟩, _, _, rfl, rfl, _, _, rfl, rfl, .inr ⟨by decide, by decide⟩, q'⟩
    refine ⟨_, rfl, _, _, rfl, rfl, (by show (0 : Int) < 2; decide), rfl, _, rfl, ?_⟩
    refine iteVi (fun hA => ?_) (fun hA => ?_)
    · refine ⟨_, rfl, _, rfl, _, _, rfl, rfl, .inl ⟨by decide, by decide⟩, _, _, rfl, rfl, _, _, rfl, rfl, (by show (0 : Int) ≤ 480 * j + 400; omega), _, _, rfl, rfl, _, rfl, ?_⟩
      refine ite2d (fun hB => ?_) (fun hB => ?_)
      · have e : sub c j = subA c j := if_pos ⟨hA, hB⟩
        rw [e] at q'
        exact ⟨_, rfl, _, rfl, _, _, rfl, rfl, .inl ⟨by decide, by decide⟩, _, _, rfl, rfl, (by show (0 : Int) ≤ 480 * j; omega), _, _, rfl, rfl, q'⟩
      · exact tail (if_neg fun z => hB z.2)
    · refine iteF ?_
      exact tail (if_neg fun z => hA z.1)
abbrev psPick : List Str := ["_law_cell_here", "_law_k", "_law_many"]
theorem scPick : FnScope ["_law_cell_here", "_law_k", "_law_many", "_law_great", "_law_by", "_law_one"] psPick (defScope s_law_pick) := ⟨rfl, rfl, rfl, by decide +kernel, rfl, by decide +kernel, by decide +kernel⟩
theorem ok_pick {f : Addr} {fd : FuncData} (F : Fun K "_law_pick" "_law_pick" s_law_pick f fd) : FnOk P w K mg base CX0 1 f fd psPick spPick := by
  refine F.ok scPick (fun vs H Q E h => ?_) (fun cdv A outer s H vs Q E hr h => ?_)
  · obtain ⟨c, k, m, rfl, _⟩ := h
    rfl
  · obtain ⟨c, k, m, rfl, h0, h1, hm, q⟩ := h
    refine ⟨_, pss_cons (ps_if (pw_and (pt_cmpR op_eq (pe_op op_mod (pv 0) pe_int) pe_int (nomark _)) (pw_and1 (pt_cmpR op_gt (pe_op op_shr (pv 0) pe_int) pe_int (nomark _)))).pt
        (pss_one (ps_ret (pe_op op_mod (pe_op op_and (pe_op op_shr (pv 0) (pe_op op_add pe_int (pe_op op_mul pe_int (pv 1)))) pe_int) (pv 2)))) pss_nil)
      (pss_cons (ps_set (i := 3) scPick.nd rfl (Or.inl rfl) pe_int)
      (pss_cons (ps_set (i := 4) scPick.nd rfl (Or.inl rfl) (pe_ix ix_list (pe_lst (pa_cons pe_int (pa_cons pe_int (pa_cons pe_int (pa_cons pe_int (pa_cons pe_int (pa_cons pe_int (pa_cons pe_int (pa_cons pe_int pa_nil))))))))) (pe_op op_mod (pv 1) pe_int) (fun _ _ => rfl)))
      (pss_cons (ps_set (i := 4) scPick.nd rfl (Or.inl rfl) (pe_op op_mul (pv 4) (pe_ix ix_list (pe_lst (pa_cons pe_int (pa_cons pe_int (pa_cons pe_int (pa_cons pe_int (pa_cons pe_int pa_nil)))))) (pe_op op_fdiv (pv 1) pe_int) (fun _ _ => rfl))))
      (pss_cons (ps_set (i := 5) scPick.nd rfl (Or.inl rfl) (pe_op op_mod (pe_op op_mul (pe_op op_add (pe_op op_mod (pe_op op_fdiv (pv 0) pe_int) (pv 3)) pe_int) (pv 4)) (pv 3)))
      (pss_cons (ps_set (i := 5) scPick.nd rfl (Or.inl rfl) (pe_op op_mod (pe_op op_mul (pv 5) (pv 5)) pe_int))
      (pss_one (ps_ret (pe_op op_mod (pe_op op_fdiv (pe_op op_mod (pe_op op_mul (pe_op op_add (pe_op op_add (pv 5) (pv 1)) pe_int) (pe_op op_add (pe_op op_fdiv (pv 5) pe_int) pe_int)) pe_int) pe_int) (pv 2))))))))), ?_⟩
    obtain ⟨t1, t2, t3⟩ := tab8_at (k := k % 8) (by omega) (by omega)
    obtain ⟨u1, u2, u3⟩ := tab5_at (k := k / 8) (by omega) (by omega)
    have a8 : atI (tab8.map V.int) (k % 8) = some (V.int (tab8.getD (k % 8).toNat 0)) := by
      have := atI_nat (xs := tab8.map V.int) (j := (k % 8).toNat) (by rw [List.getElem?_map, t1]; rfl)
      rwa [show (((k % 8).toNat : Nat) : Int) = k % 8 from by omega] at this
    have a5 : atI (tab5.map V.int) (k / 8) = some (V.int (tab5.getD (k / 8).toNat 0)) := by
      have := atI_nat (xs := tab5.map V.int) (j := (k / 8).toNat) (by rw [List.getElem?_map, u1]; rfl)
      rwa [show (((k / 8).toNat : Nat) : Int) = k / 8 from by omega] at this
    have g1 := one1_ge c k
    have g2 := one1_lt c k
    have g3 := one2_ge c k
    have g4 := one2_lt c k
    have ms := mul_small t2 t3 u2 u3
    refine ⟨_, rfl, _, _, rfl, rfl, (by show (0 : Int) < 2; decide), rfl, _, rfl, ?_⟩
    refine iteVi (fun hA => ?_) (fun hA => ?_)
    · refine ⟨_, rfl, _, _, rfl, rfl, (by show (0 : Int) ≤ 400; decide), _, _, rfl, rfl, _, rfl, ?_⟩
      refine ite2d (fun hB => ?_) (fun hB => ?_)
      · have e : pick c k m = pickA c k m := if_pos ⟨hA, hB⟩
        have q' := q H (Same.refl H)
        rw [e] at q'
        exact ⟨_, rfl, _, rfl, _, _, rfl, rfl, .inl ⟨by decide, by decide⟩, _, _, rfl, rfl, _, _, rfl, rfl, (by show (0 : Int) ≤ 1 + 10 * k; omega), _, _, rfl, rfl, _, rfl, _, _, rfl, rfl, hm, q'⟩
      · have e : pick c k m = pickB c k m := if_neg fun z => hB z.2
        refine ⟨by show 8 ≤ sizeLine; decide, fun p hp => ?_⟩
        refine ⟨_, rfl, _, _, rfl, rfl, (by show (0 : Int) < 8; decide), p, tab8.map V.int, _, _, rfl, rfl, SqL.of upd_same, a8, ?_⟩
        refine ⟨_, rfl, (by show 5 ≤ sizeLine; decide), fun p2 hp2 => ?_⟩
        refine ⟨_, rfl, _, _, rfl, rfl, ⟨by decide, by decide⟩, p2, tab5.map V.int, _, _, rfl, rfl, SqL.of upd_same, a5, _, _, rfl, rfl, .inl ⟨by omega, by omega⟩, ?_⟩
        refine ⟨_, rfl, _, _, rfl, rfl, ⟨by decide, by decide⟩, _, rfl, _, _, rfl, rfl, (by show (0 : Int) < 2305843009213693951; decide), _, _, rfl, rfl, _, rfl, _, _, rfl, rfl, .inr ⟨by omega, by omega⟩, _, rfl, _, _, rfl, rfl, (by show (0 : Int) < 2305843009213693951; decide), ?_⟩
        refine ⟨_, rfl, _, rfl, _, _, rfl, rfl, .inl ⟨(by show -(2 ^ 64) < one1 c k; omega), (by show one1 c k < 2 ^ 64; omega)⟩, _, _, rfl, rfl, (by show (0 : Int) < 1000000000039; decide), ?_⟩
        refine ⟨_, rfl, _, rfl, _, _, rfl, rfl, _, _, rfl, rfl, _, rfl, _, _, rfl, rfl, ⟨by decide, by decide⟩, _, _, rfl, rfl, _, _, rfl, rfl, .inl ⟨(by show -(2 ^ 64) < one2 c k + k + 1; omega), (by show one2 c k + k + 1 < 2 ^ 64; omega)⟩, _, _, rfl, rfl, (by show (0 : Int) < 67280421310721; decide), _, _, rfl, rfl, ⟨by decide, by decide⟩, _, rfl, _, _, rfl, rfl, hm, ?_⟩
        rw [e] at q
        exact q _ ((Same.new hp).put hp2)
    · refine iteF ?_
      have e : pick c k m = pickB c k m := if_neg fun z => hA z.1
      refine ⟨by show 8 ≤ sizeLine; decide, fun p hp => ?_⟩
      refine ⟨_, rfl, _, _, rfl, rfl, (by show (0 : Int) < 8; decide), p, tab8.map V.int, _, _, rfl, rfl, SqL.of upd_same, a8, ?_⟩
      refine ⟨_, rfl, (by show 5 ≤ sizeLine; decide), fun p2 hp2 => ?_⟩
      refine ⟨_, rfl, _, _, rfl, rfl, ⟨by decide, by decide⟩, p2, tab5.map V.int, _, _, rfl, rfl, SqL.of upd_same, a5, _, _, rfl, rfl, .inl ⟨by omega, by omega⟩, ?_⟩
      refine ⟨_, rfl, _, _, rfl, rfl, ⟨by decide, by decide⟩, _, rfl, _, _, rfl, rfl, (by show (0 : Int) < 2305843009213693951; decide), _, _, rfl, rfl, _, rfl, _, _, rfl, rfl, .inr ⟨by omega, by omega⟩, _, rfl, _, _, rfl, rfl, (by show (0 : Int) < 2305843009213693951; decide), ?_⟩
      refine ⟨_, rfl, _, rfl, _, _, rfl, rfl, .inl ⟨(by show -(2 ^ 64) < one1 c k; omega), (by show one1 c k < 2 ^ 64; omega)⟩, _, _, rfl, rfl, (by show (0 : Int) < 1000000000039; decide), ?_⟩
      refine ⟨_, rfl, _, rfl, _, _, rfl, rfl, _, _, rfl, rfl, _, rfl, _, _, rfl, rfl, ⟨by decide, by decide⟩, _, _, rfl, rfl, _, _, rfl, rfl, .inl ⟨(by show -(2 ^ 64) < one2 c k + k + 1; omega), (by show one2 c k + k + 1 < 2 ^ 64; omega)⟩, _, _, rfl, rfl, (by show (0 : Int) < 67280421310721; decide), _, _, rfl, rfl, ⟨by decide, by decide⟩, _, rfl, _, _, rfl, rfl, hm, ?_⟩
      rw [e] at q
      exact q _ ((Same.new hp).put hp2)
abbrev psName : List Str := ["_law_cell_here"]
theorem scName : FnScope ["_law_cell_here", "_law_letters"] psName (defScope s_law_name) := ⟨rfl, rfl, rfl, by decide +kernel, rfl, by decide +kernel, by decide +kernel⟩
theorem ok_name {f fp : Addr} {fd fdp : FuncData} (F : Fun K "_law_name" "_law_name" s_law_name f fd) (A1 : FnAt K mg "_law_pick" s_law_pick psPick fp fdp) (hrg : mg "range" = none) : FnOk P w K mg base CX0 2 f fd psName spName := by
  have G1 : FnOk P w K mg base CX0 1 fp fdp psPick spPick := ok_pick A1.F
  refine F.ok scName (fun vs H Q E h => ?_) (fun cdv A outer s H vs Q E hr h => ?_)
  · obtain ⟨c, rfl, _⟩ := h
    rfl
  · obtain ⟨c, rfl, q⟩ := h
    have hr1 : Room 1 _ := hr
    refine ⟨_, pss_cons (ps_set (i := 1) scName.nd rfl (Or.inr rfl) pe_str)
      (pss_one (ps_ret (pe_bm PySem.F.plainAttrs_str PySem.F.slot_str_join PySem.F.type_str_join mt_join pe_str
        (pa_cons (pe_comp (N := ["_law_j", "_law_letters", "_law_cell_here"]) [none, some 1, some 0] rfl (by kernel_rfl)
          (pi_range1 (by rfl) hrg (pa_cons (pe_op op_add pe_int (pcall A1 G1 hr1 (pa_cons (pv 0) (pa_cons pe_int (pa_cons pe_int pa_nil))))) pa_nil))
          (fun cl C fp s H => pg_name (i := 0) (by decide +kernel : (["_law_j", "_law_letters", "_law_cell_here"] : List Str).Nodup) rfl (Or.inl rfl)) (fun cl C fp s H => pf_nil)
          (fun cl C fp s H => pe_ix ix_str (pv 1) (pcall A1 G1 hr1 (pa_cons (pv 2) (pa_cons (pe_op op_add pe_int (pv 0)) (pa_cons pe_int pa_nil)))) (fun _ _ => rfl))) pa_nil)))), ?_⟩
    refine ⟨rfl, ?_⟩
    refine ⟨_, rfl, c, 30, 8, rfl, by decide, by decide, by decide, fun H1 s1 => ?_⟩
    have b1 := pick_ge c 30 (m := 8) (by decide)
    have b2 := pick_lt c 30 (m := 8) (by decide)
    refine ⟨_, _, rfl, rfl, _, rfl, by omega, by omega, ?_⟩
    refine comp_range (fun j => V.str ⟨#[letter c j]⟩) (Nat.le_trans (show (1 + pick c 30 8).toNat ≤ 8 by omega) (by decide)) (fun i H' Q' hi sm k' => ?_) (fun τ H Q Q' hh h => hh _ _ h) (fun H' sm => ?_)
    · refine ⟨rfl, ?_⟩
      have l1 := pick_ge c (31 + (0 + (i : Int))) (m := 26) (by decide)
      have l2 := pick_lt c (31 + (0 + (i : Int))) (m := 26) (by decide)
      have li : i < (1 + pick c 30 8).toNat := hi
      refine ⟨_, rfl, _, rfl, _, rfl, _, _, rfl, rfl, c, 31 + (0 + (i : Int)), 26, rfl, by omega, by omega, by decide, fun H2 s2 => ?_⟩
      have lat : atI letters.cps.toList (pick c (31 + (0 + (i : Int))) 26) = some (97 + (pick c (31 + (0 + (i : Int))) 26).toNat) := by
        have := atI_nat (letters_at l1 l2)
        rwa [show (((pick c (31 + (0 + (i : Int))) 26).toNat : Nat) : Int) = pick c (31 + (0 + (i : Int))) 26 from by omega] at this
      refine ⟨letters, _, _, rfl, rfl, by decide +kernel, lat, ?_⟩
      have e : V.str ⟨#[97 + (pick c (31 + (0 + (i : Int))) 26).toNat]⟩ = V.str ⟨#[letter c i]⟩ := by
        unfold letter
        rw [show (0 + (i : Int)) = (i : Int) from by omega]
      rw [e]
      exact k' H2 s2
    · intro p hp
      refine ⟨_, p, (List.range (1 + pick c 30 8).toNat).map fun (j : Nat) => (⟨#[letter c (j : Int)]⟩ : Str), rfl, rfl, .inl (SqL.of ?_), ?_, ?_⟩
      · rw [List.map_map]
        exact upd_same
      · have h1 : ∀ y ∈ (List.range (1 + pick c 30 8).toNat).map fun (j : Nat) => (⟨#[letter c (j : Int)]⟩ : Str), y.length ≤ 1 := fun y hy => by
          obtain ⟨j, _, rfl⟩ := List.mem_map.mp hy
          exact Nat.le_refl 1
        have h2 := sum_le h1
        rw [List.length_map, List.length_range] at h2
        have h3 : (("" : Str)).length = 0 := by decide +kernel
        rw [List.length_map, List.length_range, h3]
        omega
      · rw [empty_eq, join_letters]
        exact q _ ((s1.trans sm).put hp)
end


section
variable {P : Program} {w : World} {K : PySem.W.Frag} {mg : Str → Option Value} {base : Heap}
abbrev psNumber : List Str := ["_law_cell_here", "_law_far"]
theorem scNumber : FnScope ["_law_cell_here", "_law_far"] psNumber (defScope s_law_number) := ⟨rfl, rfl, rfl, by decide +kernel, rfl, by decide +kernel, by decide +kernel⟩
theorem ok_number {f : Addr} {fd : FuncData} (F : Fun K "_law_number" "_law_number" s_law_number f fd) : FnOk P w K mg base CX0 1 f fd psNumber spNumber := by
  refine F.ok scNumber (fun vs H Q E h => ?_) (fun cdv A outer s H vs Q E hr h => ?_)
  · obtain ⟨c, far, rfl, _⟩ := h
    rfl
  · obtain ⟨c, far, rfl, h0, q⟩ := h
    refine ⟨_, pss_cons (ps_if (pw_and (pt_cmpR op_eq (pe_op op_mod (pv 0) pe_int) pe_int (nomark _)) (pw_and1 (pt_cmpR op_gt (pe_op op_shr (pv 0) pe_int) pe_int (nomark _)))).pt
        (pss_one (ps_ret (pe_op op_mod (pe_op op_shr (pv 0) pe_int) (pv 1)))) pss_nil)
      (pss_one (ps_ret (pe_op op_mod (pe_op op_fdiv (pv 0) pe_int) (pv 1)))), ?_⟩
    have q' := q H (Same.refl H)
    refine ⟨_, rfl, _, _, rfl, rfl, (by show (0 : Int) < 2; decide), rfl, _, rfl, ?_⟩
    refine iteVi (fun hA => ?_) (fun hA => ?_)
    · refine ⟨_, rfl, _, _, rfl, rfl, (by show (0 : Int) ≤ 400; decide), _, _, rfl, rfl, _, rfl, ?_⟩
      refine ite2d (fun hB => ?_) (fun hB => ?_)
      · have e : number c far = c / 2 ^ (400 : Int).toNat % far := if_pos ⟨hA, hB⟩
        rw [e] at q'
        exact ⟨_, rfl, _, _, rfl, rfl, (by show (0 : Int) ≤ 400; decide), _, rfl, _, _, rfl, rfl, h0, q'⟩
      · have e : number c far = c / 2 % far := if_neg fun z => hB z.2
        rw [e] at q'
        exact ⟨_, rfl, _, _, rfl, rfl, ⟨by decide, by decide⟩, _, rfl, _, _, rfl, rfl, h0, q'⟩
    · refine iteF ?_
      have e : number c far = c / 2 % far := if_neg fun z => hA z.1
      rw [e] at q'
      exact ⟨_, rfl, _, _, rfl, rfl, ⟨by decide, by decide⟩, _, rfl, _, _, rfl, rfl, h0, q'⟩
end

abbrev psPINoText : List Str := ["self", "at"]
theorem scPINoText : FnScope ["self", "at"] psPINoText (defScope s_i_NoText) := ⟨rfl, rfl, rfl, by decide +kernel, rfl, by decide +kernel, by decide +kernel⟩
abbrev psPITooMany : List Str := ["self", "at"]
theorem scPITooMany : FnScope ["self", "at"] psPITooMany (defScope s_i_TooMany) := ⟨rfl, rfl, rfl, by decide +kernel, rfl, by decide +kernel, by decide +kernel⟩
abbrev psPITwice : List Str := ["self", "at"]
theorem scPITwice : FnScope ["self", "at"] psPITwice (defScope s_i_Twice) := ⟨rfl, rfl, rfl, by decide +kernel, rfl, by decide +kernel, by decide +kernel⟩
abbrev psPIDouble : List Str := ["self", "at"]
theorem scPIDouble : FnScope ["self", "at"] psPIDouble (defScope s_i_Double) := ⟨rfl, rfl, rfl, by decide +kernel, rfl, by decide +kernel, by decide +kernel⟩
abbrev psPIOrphan : List Str := ["self", "at"]
theorem scPIOrphan : FnScope ["self", "at"] psPIOrphan (defScope s_i_Orphan) := ⟨rfl, rfl, rfl, by decide +kernel, rfl, by decide +kernel, by decide +kernel⟩
abbrev psPIClash : List Str := ["self", "at"]
theorem scPIClash : FnScope ["self", "at"] psPIClash (defScope s_i_Clash) := ⟨rfl, rfl, rfl, by decide +kernel, rfl, by decide +kernel, by decide +kernel⟩
abbrev psPINoRow : List Str := ["self", "at"]
theorem scPINoRow : FnScope ["self", "at"] psPINoRow (defScope s_i_NoRow) := ⟨rfl, rfl, rfl, by decide +kernel, rfl, by decide +kernel, by decide +kernel⟩
abbrev psPINoPart : List Str := ["self", "address"]
theorem scPINoPart : FnScope ["self", "address"] psPINoPart (defScope s_i_NoPart) := ⟨rfl, rfl, rfl, by decide +kernel, rfl, by decide +kernel, by decide +kernel⟩
abbrev psPINoDrop : List Str := ["self", "address"]
theorem scPINoDrop : FnScope ["self", "address"] psPINoDrop (defScope s_i_NoDrop) := ⟨rfl, rfl, rfl, by decide +kernel, rfl, by decide +kernel, by decide +kernel⟩
abbrev psPINoName : List Str := ["self", "name"]
theorem scPINoName : FnScope ["self", "name"] psPINoName (defScope s_i_NoName) := ⟨rfl, rfl, rfl, by decide +kernel, rfl, by decide +kernel, by decide +kernel⟩
abbrev psPIFault : List Str := ["self", "word", "trail", "whose", "name"]
theorem scPIFault : FnScope ["self", "word", "trail", "whose", "name"] psPIFault (defScope s_i_Fault) := ⟨rfl, rfl, rfl, by decide +kernel, rfl, by decide +kernel, by decide +kernel⟩
abbrev psFlags : List Str := ["_law_e"]
theorem scFlags : FnScope ["_law_e", "_law_some"] psFlags (defScope s_law_flags) := ⟨rfl, rfl, rfl, by decide +kernel, rfl, by decide +kernel, by decide +kernel⟩
abbrev psPlaced : List Str := ["_law_way", "_law_at"]
theorem scPlaced : FnScope ["_law_way", "_law_at"] psPlaced (defScope s_law_placed) := ⟨rfl, rfl, rfl, by decide +kernel, rfl, by decide +kernel, by decide +kernel⟩
abbrev psWorded : List Str := ["_law_way", "_law_word"]
theorem scWorded : FnScope ["_law_way", "_law_word"] psWorded (defScope s_law_worded) := ⟨rfl, rfl, rfl, by decide +kernel, rfl, by decide +kernel, by decide +kernel⟩
abbrev psKeeps : List Str := ["_law_e", "_law_way", "_law_at", "_law_word"]
theorem scKeeps : FnScope ["_law_e", "_law_way", "_law_at", "_law_word"] psKeeps (defScope s_law_keeps) := ⟨rfl, rfl, rfl, by decide +kernel, rfl, by decide +kernel, by decide +kernel⟩
abbrev psFault : List Str := ["_law_cell_here"]
theorem scFault : FnScope ["_law_cell_here", "_law_trail", "_law_word", "_law_handed", "_law_e", "_law_other", "_law_flags_here"] psFault (defScope s_law_fault) := ⟨rfl, rfl, rfl, by decide +kernel, rfl, by decide +kernel, by decide +kernel⟩
abbrev psLaw : List Str := ["_law_script"]
theorem scLaw : FnScope ["_law_script", "_law_k", "_law_cell_here", "_law_way", "_law_at", "_law_word", "_law_e", "_law_other", "_law_due"] psLaw (defScope s_law) := ⟨rfl, rfl, rfl, by decide +kernel, rfl, by decide +kernel, by decide +kernel⟩
structure Tx (K : PySem.W.Frag) (mg : Str → Option Value) (C : Nat → Addr) : Prop where
  len : mg "len" = none
  range : mg "range" = none
  inst : mg "isinstance" = none
  t_int : mg "int" = none
  t_bool : mg "bool" = none
  t_str : mg "str" = none
  t_list : mg "list" = none
  max : mg "max" = none
  min : mg "min" = none
  t_ValueError : mg "ValueError" = none
  a_law_cell : ∃ f fd, FnAt K mg "_law_cell" s_law_cell psCell f fd
  a_law_sub : ∃ f fd, FnAt K mg "_law_sub" s_law_sub psSub f fd
  a_law_number : ∃ f fd, FnAt K mg "_law_number" s_law_number psNumber f fd
  a_law_pick : ∃ f fd, FnAt K mg "_law_pick" s_law_pick psPick f fd
  a_law_name : ∃ f fd, FnAt K mg "_law_name" s_law_name psName f fd
  a_law_flags : ∃ f fd, FnAt K mg "_law_flags" s_law_flags psFlags f fd
  a_law_placed : ∃ f fd, FnAt K mg "_law_placed" s_law_placed psPlaced f fd
  a_law_worded : ∃ f fd, FnAt K mg "_law_worded" s_law_worded psWorded f fd
  a_law_keeps : ∃ f fd, FnAt K mg "_law_keeps" s_law_keeps psKeeps f fd
  a_law_fault : ∃ f fd, FnAt K mg "_law_fault" s_law_fault psFault f fd
  i_NoText : ∃ f fd, XIn K (C 0) "NoText.__init__" s_i_NoText psPINoText f fd
  i_TooMany : ∃ f fd, XIn K (C 1) "TooMany.__init__" s_i_TooMany psPITooMany f fd
  i_Twice : ∃ f fd, XIn K (C 2) "Twice.__init__" s_i_Twice psPITwice f fd
  i_Double : ∃ f fd, XIn K (C 3) "Double.__init__" s_i_Double psPIDouble f fd
  i_Orphan : ∃ f fd, XIn K (C 4) "Orphan.__init__" s_i_Orphan psPIOrphan f fd
  i_Clash : ∃ f fd, XIn K (C 5) "Clash.__init__" s_i_Clash psPIClash f fd
  i_NoRow : ∃ f fd, XIn K (C 6) "NoRow.__init__" s_i_NoRow psPINoRow f fd
  i_NoPart : ∃ f fd, XIn K (C 7) "NoPart.__init__" s_i_NoPart psPINoPart f fd
  i_NoDrop : ∃ f fd, XIn K (C 8) "NoDrop.__init__" s_i_NoDrop psPINoDrop f fd
  i_NoName : ∃ f fd, XIn K (C 9) "NoName.__init__" s_i_NoName psPINoName f fd
  i_Fault : ∃ f fd, XIn K (C 12) "Fault.__init__" s_i_Fault psPIFault f fd
  c_NoText : mg "NoText" = some (.ref (C 0))
  c_TooMany : mg "TooMany" = some (.ref (C 1))
  c_Twice : mg "Twice" = some (.ref (C 2))
  c_Double : mg "Double" = some (.ref (C 3))
  c_Orphan : mg "Orphan" = some (.ref (C 4))
  c_Clash : mg "Clash" = some (.ref (C 5))
  c_NoRow : mg "NoRow" = some (.ref (C 6))
  c_NoPart : mg "NoPart" = some (.ref (C 7))
  c_NoDrop : mg "NoDrop" = some (.ref (C 8))
  c_NoName : mg "NoName" = some (.ref (C 9))
  c_NoExpr : mg "NoExpr" = some (.ref (C 10))
  c_TooWide : mg "TooWide" = some (.ref (C 11))
  c_Fault : mg "Fault" = some (.ref (C 12))
  c_HouseError : mg "HouseError" = some (.ref (C 13))
  fam : Fam K C
  n_NoText_at : NoAttr K (C 0) "at"
  n_TooMany_at : NoAttr K (C 1) "at"
  n_Twice_at : NoAttr K (C 2) "at"
  n_Double_at : NoAttr K (C 3) "at"
  n_Orphan_at : NoAttr K (C 4) "at"
  n_Clash_at : NoAttr K (C 5) "at"
  n_NoRow_at : NoAttr K (C 6) "at"
  n_NoPart_address : NoAttr K (C 7) "address"
  n_NoDrop_address : NoAttr K (C 8) "address"
  n_NoName_name : NoAttr K (C 9) "name"
  n_Fault_word : NoAttr K (C 12) "word"
  n_Fault_trail : NoAttr K (C 12) "trail"
  n_Fault_whose : NoAttr K (C 12) "whose"
  n_Fault_name : NoAttr K (C 12) "name"
  j_NoExpr : PySem.W.findIn K (.ref (C 10)) "__init__" = some (some (.builtin "ValueError.__init__"))
  k_NoExpr : PySem.W.keepIn K (.ref (C 10)) = true
  j_TooWide : PySem.W.findIn K (.ref (C 11)) "__init__" = some (some (.builtin "ValueError.__init__"))
  k_TooWide : PySem.W.keepIn K (.ref (C 11)) = true
  j_HouseError : PySem.W.findIn K (.ref (C 13)) "__init__" = some (some (.builtin "ValueError.__init__"))
  k_HouseError : PySem.W.keepIn K (.ref (C 13)) = true
  ini1 : PySem.W.specialIn K (.ref (C 13)) "__getattribute__" = some (some (.builtin "type.__getattribute__"))
  ini2 : PySem.W.readsIn K (C 13) (.type "type") = true
  ini3 : PySem.W.findCls K (.ref (C 13)) (.type "type") "__init__" = some (.val (.builtin "ValueError.__init__"))
section
variable {P : Program} {w : World} {K : PySem.W.Frag} {mg : Str → Option Value} {base : Heap}
theorem fitA {a b : Str} (ha : a.length ≤ 1000) (hb : b.length ≤ 6000) : (a ++ b).length ≤ sizeLine := by
  rw [appLen, sizeLine_eq]; omega
def spIni (C : Addr) (g : Str) : Sp := fun vs H Q _ => ∃ x y, vs = [.ref x, y] ∧ H x = some (ExO x C none) ∧ ((∃ i : Int, y = .int i ∧ i.natAbs.log2 < 1920) ∨ ∃ z : Str, y = .str z ∧ z.length ≤ 1000) ∧
  ∀ p, H p = none → p ≠ x → Q .non (upd (upd H p (XdO p [(g, y)])) x (ExO x C (some p)))
def fsF (w z n : Str) (t : Addr) : List (Str × V) := [("word", .str w), ("trail", .ref t), ("whose", .str z), ("name", .str n)]
def spIniF (K : PySem.W.Frag) (C : Addr) : Sp := fun vs H Q _ => ∃ x w t z n xs, vs = [.ref x, .str w, .ref t, .str z, .str n] ∧ H x = some (ExO x C none) ∧ w.length ≤ 100 ∧ z.length ≤ 100 ∧ n.length ≤ 100 ∧ H t = some (.lst xs) ∧ xs.length ≤ 100 ∧
  ∀ p r H', H p = none → H r = none → p ≠ x → r ≠ x → r ≠ p → (∀ b o, b ≠ x → H b = some o → H' b = some o) → H' x = some (ExO x C (some p)) → H' p = some (XdO p (fsF w z n r)) → H' r = some (.lst xs) → Q .non H'
def flagsL (i : Nat) : List V := (List.range 13).map fun j => .bl (decide (i = j))
def spFlags (C : Nat → Addr) : Sp := fun vs H Q _ => ∃ a i fs, vs = [.ref a] ∧ i ≤ 13 ∧ IsX C H a i fs ∧ ∀ H' p, Same H H' → H' p = some (.lst (flagsL i)) → Q (.ref p) H'
def spPlaced (C : Nat → Addr) : Sp := fun vs H Q _ => ∃ (i : Nat) (n : Int), vs = [.int i, .int n] ∧ i ≤ 6 ∧ n.natAbs.log2 < 1920 ∧ ∀ H' a, Same H H' → IsX C H' a i [("at", .int n)] → Q (.ref a) H'
def cW (i : Nat) : Nat := if i = 12 then 13 else i
def fsW (i : Nat) (z : Str) : List (Str × V) := if i < 9 then [("address", .str z)] else if i = 9 then [("name", .str z)] else []
def spWorded (C : Nat → Addr) : Sp := fun vs H Q _ => ∃ (i : Nat) (z : Str), vs = [.int i, .str z] ∧ 7 ≤ i ∧ i ≤ 12 ∧ z.length ≤ 1000 ∧ ∀ H' a, Same H H' → IsX C H' a (cW i) (fsW i z) → Q (.ref a) H'
def spKeeps (C : Nat → Addr) : Sp := fun vs H Q _ => ∃ (a : Addr) (i : Nat) (n : Int) (z : Str), vs = [.ref a, .int i, .int n, .str z] ∧ i ≤ 12 ∧ z.length ≤ 1000 ∧ (i ≤ 6 → IsX C H a i [("at", .int n)]) ∧ (7 ≤ i → IsX C H a (cW i) (fsW i z)) ∧ Pur (.bl true) H Q
def spFault : Sp := fun vs H Q _ => ∃ c : Int, vs = [.int c] ∧ Pur (.bl true) H Q
def spLaw (K : PySem.W.Frag) : Sp := fun vs H Q _ => ∃ (a : Addr) (ns : List Int), vs = [.ref a] ∧ SqL K H a (ns.map V.int) ∧ ns.length ≤ 63 ∧ ∀ H', Q (.bl true) H'

end
end Mine
namespace Mine
open PySem PySem.Spec PyProof.Rows L2
section
variable {P : Program} {w : World} {K : PySem.W.Frag} {mg : Str → Option Value} {base : Heap}
theorem ok_i_NoText {C : Nat → Addr} (T : Tx K mg C) {f : Addr} {fd : FuncData} (F : Fun K "__init__" "NoText.__init__" s_i_NoText f fd) : FnOk P w K mg base CX0 1 f fd psPINoText (spIni (C 0) "at") := by
  refine F.ok scPINoText (fun vs H Q E h => ?_) (fun cdv A outer s H vs Q E hr h => ?_)
  · obtain ⟨x, y, rfl, _⟩ := h
    rfl
  · obtain ⟨x, y, rfl, hx, hy, q⟩ := h
    refine ⟨_, QSs.h (qss_cons (qs_expr (pe_xinit (by rfl) T.c_HouseError T.ini1 T.ini2 T.ini3 (pa_cons (pv 0) (pa_cons (pe_joined (pj_cons pe_str (pj_cons (pe_fmt (pv 1)) pj_nil))) pa_nil))))
      (qss_one (qs_xfld0 (pv 0) (pv 1)))), ?_⟩
    rcases hy with ⟨i, rfl, hi⟩ | ⟨z, rfl, hz⟩
    · refine ⟨_, rfl, _, rfl, by decide +kernel, _, rfl, Or.inl ⟨_, rfl, hi, _, rfl, fitA (by decide +kernel) (Nat.le_trans (txtI hi) (by decide)), fitA (by decide +kernel) (Nat.le_trans (txtI hi) (by decide)), _, _, _, _, rfl, hx, T.fam.c _ (by decide), ?_⟩⟩
      exact ⟨_, rfl, _, rfl, _, _, rfl, hx, T.fam.x _ (by decide), T.n_NoText_at, fun p hp hne => q p hp hne⟩
    · refine ⟨_, rfl, _, rfl, by decide +kernel, _, rfl, Or.inr ⟨_, rfl, Nat.le_trans hz line_big, _, rfl, fitA (by decide +kernel) (by omega), fitA (by decide +kernel) (by omega), _, _, _, _, rfl, hx, T.fam.c _ (by decide), ?_⟩⟩
      exact ⟨_, rfl, _, rfl, _, _, rfl, hx, T.fam.x _ (by decide), T.n_NoText_at, fun p hp hne => q p hp hne⟩

theorem ok_i_TooMany {C : Nat → Addr} (T : Tx K mg C) {f : Addr} {fd : FuncData} (F : Fun K "__init__" "TooMany.__init__" s_i_TooMany f fd) : FnOk P w K mg base CX0 1 f fd psPITooMany (spIni (C 1) "at") := by
  refine F.ok scPITooMany (fun vs H Q E h => ?_) (fun cdv A outer s H vs Q E hr h => ?_)
  · obtain ⟨x, y, rfl, _⟩ := h
    rfl
  · obtain ⟨x, y, rfl, hx, hy, q⟩ := h
    refine ⟨_, QSs.h (qss_cons (qs_expr (pe_xinit (by rfl) T.c_HouseError T.ini1 T.ini2 T.ini3 (pa_cons (pv 0) (pa_cons (pe_joined (pj_cons pe_str (pj_cons (pe_fmt (pv 1)) pj_nil))) pa_nil))))
      (qss_one (qs_xfld0 (pv 0) (pv 1)))), ?_⟩
    rcases hy with ⟨i, rfl, hi⟩ | ⟨z, rfl, hz⟩
    · refine ⟨_, rfl, _, rfl, by decide +kernel, _, rfl, Or.inl ⟨_, rfl, hi, _, rfl, fitA (by decide +kernel) (Nat.le_trans (txtI hi) (by decide)), fitA (by decide +kernel) (Nat.le_trans (txtI hi) (by decide)), _, _, _, _, rfl, hx, T.fam.c _ (by decide), ?_⟩⟩
      exact ⟨_, rfl, _, rfl, _, _, rfl, hx, T.fam.x _ (by decide), T.n_TooMany_at, fun p hp hne => q p hp hne⟩
    · refine ⟨_, rfl, _, rfl, by decide +kernel, _, rfl, Or.inr ⟨_, rfl, Nat.le_trans hz line_big, _, rfl, fitA (by decide +kernel) (by omega), fitA (by decide +kernel) (by omega), _, _, _, _, rfl, hx, T.fam.c _ (by decide), ?_⟩⟩
      exact ⟨_, rfl, _, rfl, _, _, rfl, hx, T.fam.x _ (by decide), T.n_TooMany_at, fun p hp hne => q p hp hne⟩

theorem ok_i_Twice {C : Nat → Addr} (T : Tx K mg C) {f : Addr} {fd : FuncData} (F : Fun K "__init__" "Twice.__init__" s_i_Twice f fd) : FnOk P w K mg base CX0 1 f fd psPITwice (spIni (C 2) "at") := by
  refine F.ok scPITwice (fun vs H Q E h => ?_) (fun cdv A outer s H vs Q E hr h => ?_)
  · obtain ⟨x, y, rfl, _⟩ := h
    rfl
  · obtain ⟨x, y, rfl, hx, hy, q⟩ := h
    refine ⟨_, QSs.h (qss_cons (qs_expr (pe_xinit (by rfl) T.c_HouseError T.ini1 T.ini2 T.ini3 (pa_cons (pv 0) (pa_cons (pe_joined (pj_cons pe_str (pj_cons (pe_fmt (pv 1)) pj_nil))) pa_nil))))
      (qss_one (qs_xfld0 (pv 0) (pv 1)))), ?_⟩
    rcases hy with ⟨i, rfl, hi⟩ | ⟨z, rfl, hz⟩
    · refine ⟨_, rfl, _, rfl, by decide +kernel, _, rfl, Or.inl ⟨_, rfl, hi, _, rfl, fitA (by decide +kernel) (Nat.le_trans (txtI hi) (by decide)), fitA (by decide +kernel) (Nat.le_trans (txtI hi) (by decide)), _, _, _, _, rfl, hx, T.fam.c _ (by decide), ?_⟩⟩
      exact ⟨_, rfl, _, rfl, _, _, rfl, hx, T.fam.x _ (by decide), T.n_Twice_at, fun p hp hne => q p hp hne⟩
    · refine ⟨_, rfl, _, rfl, by decide +kernel, _, rfl, Or.inr ⟨_, rfl, Nat.le_trans hz line_big, _, rfl, fitA (by decide +kernel) (by omega), fitA (by decide +kernel) (by omega), _, _, _, _, rfl, hx, T.fam.c _ (by decide), ?_⟩⟩
      exact ⟨_, rfl, _, rfl, _, _, rfl, hx, T.fam.x _ (by decide), T.n_Twice_at, fun p hp hne => q p hp hne⟩

theorem ok_i_Double {C : Nat → Addr} (T : Tx K mg C) {f : Addr} {fd : FuncData} (F : Fun K "__init__" "Double.__init__" s_i_Double f fd) : FnOk P w K mg base CX0 1 f fd psPIDouble (spIni (C 3) "at") := by
  refine F.ok scPIDouble (fun vs H Q E h => ?_) (fun cdv A outer s H vs Q E hr h => ?_)
  · obtain ⟨x, y, rfl, _⟩ := h
    rfl
  · obtain ⟨x, y, rfl, hx, hy, q⟩ := h
    refine ⟨_, QSs.h (qss_cons (qs_expr (pe_xinit (by rfl) T.c_HouseError T.ini1 T.ini2 T.ini3 (pa_cons (pv 0) (pa_cons (pe_joined (pj_cons pe_str (pj_cons (pe_fmt (pv 1)) pj_nil))) pa_nil))))
      (qss_one (qs_xfld0 (pv 0) (pv 1)))), ?_⟩
    rcases hy with ⟨i, rfl, hi⟩ | ⟨z, rfl, hz⟩
    · refine ⟨_, rfl, _, rfl, by decide +kernel, _, rfl, Or.inl ⟨_, rfl, hi, _, rfl, fitA (by decide +kernel) (Nat.le_trans (txtI hi) (by decide)), fitA (by decide +kernel) (Nat.le_trans (txtI hi) (by decide)), _, _, _, _, rfl, hx, T.fam.c _ (by decide), ?_⟩⟩
      exact ⟨_, rfl, _, rfl, _, _, rfl, hx, T.fam.x _ (by decide), T.n_Double_at, fun p hp hne => q p hp hne⟩
    · refine ⟨_, rfl, _, rfl, by decide +kernel, _, rfl, Or.inr ⟨_, rfl, Nat.le_trans hz line_big, _, rfl, fitA (by decide +kernel) (by omega), fitA (by decide +kernel) (by omega), _, _, _, _, rfl, hx, T.fam.c _ (by decide), ?_⟩⟩
      exact ⟨_, rfl, _, rfl, _, _, rfl, hx, T.fam.x _ (by decide), T.n_Double_at, fun p hp hne => q p hp hne⟩

theorem ok_i_Orphan {C : Nat → Addr} (T : Tx K mg C) {f : Addr} {fd : FuncData} (F : Fun K "__init__" "Orphan.__init__" s_i_Orphan f fd) : FnOk P w K mg base CX0 1 f fd psPIOrphan (spIni (C 4) "at") := by
  refine F.ok scPIOrphan (fun vs H Q E h => ?_) (fun cdv A outer s H vs Q E hr h => ?_)
  · obtain ⟨x, y, rfl, _⟩ := h
    rfl
  · obtain ⟨x, y, rfl, hx, hy, q⟩ := h
    refine ⟨_, QSs.h (qss_cons (qs_expr (pe_xinit (by rfl) T.c_HouseError T.ini1 T.ini2 T.ini3 (pa_cons (pv 0) (pa_cons (pe_joined (pj_cons pe_str (pj_cons (pe_fmt (pv 1)) pj_nil))) pa_nil))))
      (qss_one (qs_xfld0 (pv 0) (pv 1)))), ?_⟩
    rcases hy with ⟨i, rfl, hi⟩ | ⟨z, rfl, hz⟩
    · refine ⟨_, rfl, _, rfl, by decide +kernel, _, rfl, Or.inl ⟨_, rfl, hi, _, rfl, fitA (by decide +kernel) (Nat.le_trans (txtI hi) (by decide)), fitA (by decide +kernel) (Nat.le_trans (txtI hi) (by decide)), _, _, _, _, rfl, hx, T.fam.c _ (by decide), ?_⟩⟩
      exact ⟨_, rfl, _, rfl, _, _, rfl, hx, T.fam.x _ (by decide), T.n_Orphan_at, fun p hp hne => q p hp hne⟩
    · refine ⟨_, rfl, _, rfl, by decide +kernel, _, rfl, Or.inr ⟨_, rfl, Nat.le_trans hz line_big, _, rfl, fitA (by decide +kernel) (by omega), fitA (by decide +kernel) (by omega), _, _, _, _, rfl, hx, T.fam.c _ (by decide), ?_⟩⟩
      exact ⟨_, rfl, _, rfl, _, _, rfl, hx, T.fam.x _ (by decide), T.n_Orphan_at, fun p hp hne => q p hp hne⟩

theorem ok_i_Clash {C : Nat → Addr} (T : Tx K mg C) {f : Addr} {fd : FuncData} (F : Fun K "__init__" "Clash.__init__" s_i_Clash f fd) : FnOk P w K mg base CX0 1 f fd psPIClash (spIni (C 5) "at") := by
  refine F.ok scPIClash (fun vs H Q E h => ?_) (fun cdv A outer s H vs Q E hr h => ?_)
  · obtain ⟨x, y, rfl, _⟩ := h
    rfl
  · obtain ⟨x, y, rfl, hx, hy, q⟩ := h
    refine ⟨_, QSs.h (qss_cons (qs_expr (pe_xinit (by rfl) T.c_HouseError T.ini1 T.ini2 T.ini3 (pa_cons (pv 0) (pa_cons (pe_joined (pj_cons pe_str (pj_cons (pe_fmt (pv 1)) pj_nil))) pa_nil))))
      (qss_one (qs_xfld0 (pv 0) (pv 1)))), ?_⟩
    rcases hy with ⟨i, rfl, hi⟩ | ⟨z, rfl, hz⟩
    · refine ⟨_, rfl, _, rfl, by decide +kernel, _, rfl, Or.inl ⟨_, rfl, hi, _, rfl, fitA (by decide +kernel) (Nat.le_trans (txtI hi) (by decide)), fitA (by decide +kernel) (Nat.le_trans (txtI hi) (by decide)), _, _, _, _, rfl, hx, T.fam.c _ (by decide), ?_⟩⟩
      exact ⟨_, rfl, _, rfl, _, _, rfl, hx, T.fam.x _ (by decide), T.n_Clash_at, fun p hp hne => q p hp hne⟩
    · refine ⟨_, rfl, _, rfl, by decide +kernel, _, rfl, Or.inr ⟨_, rfl, Nat.le_trans hz line_big, _, rfl, fitA (by decide +kernel) (by omega), fitA (by decide +kernel) (by omega), _, _, _, _, rfl, hx, T.fam.c _ (by decide), ?_⟩⟩
      exact ⟨_, rfl, _, rfl, _, _, rfl, hx, T.fam.x _ (by decide), T.n_Clash_at, fun p hp hne => q p hp hne⟩

theorem ok_i_NoRow {C : Nat → Addr} (T : Tx K mg C) {f : Addr} {fd : FuncData} (F : Fun K "__init__" "NoRow.__init__" s_i_NoRow f fd) : FnOk P w K mg base CX0 1 f fd psPINoRow (spIni (C 6) "at") := by
  refine F.ok scPINoRow (fun vs H Q E h => ?_) (fun cdv A outer s H vs Q E hr h => ?_)
  · obtain ⟨x, y, rfl, _⟩ := h
    rfl
  · obtain ⟨x, y, rfl, hx, hy, q⟩ := h
    refine ⟨_, QSs.h (qss_cons (qs_expr (pe_xinit (by rfl) T.c_HouseError T.ini1 T.ini2 T.ini3 (pa_cons (pv 0) (pa_cons (pe_joined (pj_cons pe_str (pj_cons (pe_fmt (pv 1)) pj_nil))) pa_nil))))
      (qss_one (qs_xfld0 (pv 0) (pv 1)))), ?_⟩
    rcases hy with ⟨i, rfl, hi⟩ | ⟨z, rfl, hz⟩
    · refine ⟨_, rfl, _, rfl, by decide +kernel, _, rfl, Or.inl ⟨_, rfl, hi, _, rfl, fitA (by decide +kernel) (Nat.le_trans (txtI hi) (by decide)), fitA (by decide +kernel) (Nat.le_trans (txtI hi) (by decide)), _, _, _, _, rfl, hx, T.fam.c _ (by decide), ?_⟩⟩
      exact ⟨_, rfl, _, rfl, _, _, rfl, hx, T.fam.x _ (by decide), T.n_NoRow_at, fun p hp hne => q p hp hne⟩
    · refine ⟨_, rfl, _, rfl, by decide +kernel, _, rfl, Or.inr ⟨_, rfl, Nat.le_trans hz line_big, _, rfl, fitA (by decide +kernel) (by omega), fitA (by decide +kernel) (by omega), _, _, _, _, rfl, hx, T.fam.c _ (by decide), ?_⟩⟩
      exact ⟨_, rfl, _, rfl, _, _, rfl, hx, T.fam.x _ (by decide), T.n_NoRow_at, fun p hp hne => q p hp hne⟩

theorem ok_i_NoPart {C : Nat → Addr} (T : Tx K mg C) {f : Addr} {fd : FuncData} (F : Fun K "__init__" "NoPart.__init__" s_i_NoPart f fd) : FnOk P w K mg base CX0 1 f fd psPINoPart (spIni (C 7) "address") := by
  refine F.ok scPINoPart (fun vs H Q E h => ?_) (fun cdv A outer s H vs Q E hr h => ?_)
  · obtain ⟨x, y, rfl, _⟩ := h
    rfl
  · obtain ⟨x, y, rfl, hx, hy, q⟩ := h
    refine ⟨_, QSs.h (qss_cons (qs_expr (pe_xinit (by rfl) T.c_HouseError T.ini1 T.ini2 T.ini3 (pa_cons (pv 0) (pa_cons (pe_joined (pj_cons pe_str (pj_cons (pe_fmt (pv 1)) pj_nil))) pa_nil))))
      (qss_one (qs_xfld0 (pv 0) (pv 1)))), ?_⟩
    rcases hy with ⟨i, rfl, hi⟩ | ⟨z, rfl, hz⟩
    · refine ⟨_, rfl, _, rfl, by decide +kernel, _, rfl, Or.inl ⟨_, rfl, hi, _, rfl, fitA (by decide +kernel) (Nat.le_trans (txtI hi) (by decide)), fitA (by decide +kernel) (Nat.le_trans (txtI hi) (by decide)), _, _, _, _, rfl, hx, T.fam.c _ (by decide), ?_⟩⟩
      exact ⟨_, rfl, _, rfl, _, _, rfl, hx, T.fam.x _ (by decide), T.n_NoPart_address, fun p hp hne => q p hp hne⟩
    · refine ⟨_, rfl, _, rfl, by decide +kernel, _, rfl, Or.inr ⟨_, rfl, Nat.le_trans hz line_big, _, rfl, fitA (by decide +kernel) (by omega), fitA (by decide +kernel) (by omega), _, _, _, _, rfl, hx, T.fam.c _ (by decide), ?_⟩⟩
      exact ⟨_, rfl, _, rfl, _, _, rfl, hx, T.fam.x _ (by decide), T.n_NoPart_address, fun p hp hne => q p hp hne⟩

theorem ok_i_NoDrop {C : Nat → Addr} (T : Tx K mg C) {f : Addr} {fd : FuncData} (F : Fun K "__init__" "NoDrop.__init__" s_i_NoDrop f fd) : FnOk P w K mg base CX0 1 f fd psPINoDrop (spIni (C 8) "address") := by
  refine F.ok scPINoDrop (fun vs H Q E h => ?_) (fun cdv A outer s H vs Q E hr h => ?_)
  · obtain ⟨x, y, rfl, _⟩ := h
    rfl
  · obtain ⟨x, y, rfl, hx, hy, q⟩ := h
    refine ⟨_, QSs.h (qss_cons (qs_expr (pe_xinit (by rfl) T.c_HouseError T.ini1 T.ini2 T.ini3 (pa_cons (pv 0) (pa_cons (pe_joined (pj_cons pe_str (pj_cons (pe_fmt (pv 1)) pj_nil))) pa_nil))))
      (qss_one (qs_xfld0 (pv 0) (pv 1)))), ?_⟩
    rcases hy with ⟨i, rfl, hi⟩ | ⟨z, rfl, hz⟩
    · refine ⟨_, rfl, _, rfl, by decide +kernel, _, rfl, Or.inl ⟨_, rfl, hi, _, rfl, fitA (by decide +kernel) (Nat.le_trans (txtI hi) (by decide)), fitA (by decide +kernel) (Nat.le_trans (txtI hi) (by decide)), _, _, _, _, rfl, hx, T.fam.c _ (by decide), ?_⟩⟩
      exact ⟨_, rfl, _, rfl, _, _, rfl, hx, T.fam.x _ (by decide), T.n_NoDrop_address, fun p hp hne => q p hp hne⟩
    · refine ⟨_, rfl, _, rfl, by decide +kernel, _, rfl, Or.inr ⟨_, rfl, Nat.le_trans hz line_big, _, rfl, fitA (by decide +kernel) (by omega), fitA (by decide +kernel) (by omega), _, _, _, _, rfl, hx, T.fam.c _ (by decide), ?_⟩⟩
      exact ⟨_, rfl, _, rfl, _, _, rfl, hx, T.fam.x _ (by decide), T.n_NoDrop_address, fun p hp hne => q p hp hne⟩

theorem ok_i_NoName {C : Nat → Addr} (T : Tx K mg C) {f : Addr} {fd : FuncData} (F : Fun K "__init__" "NoName.__init__" s_i_NoName f fd) : FnOk P w K mg base CX0 1 f fd psPINoName (spIni (C 9) "name") := by
  refine F.ok scPINoName (fun vs H Q E h => ?_) (fun cdv A outer s H vs Q E hr h => ?_)
  · obtain ⟨x, y, rfl, _⟩ := h
    rfl
  · obtain ⟨x, y, rfl, hx, hy, q⟩ := h
    refine ⟨_, QSs.h (qss_cons (qs_expr (pe_xinit (by rfl) T.c_HouseError T.ini1 T.ini2 T.ini3 (pa_cons (pv 0) (pa_cons (pe_joined (pj_cons pe_str (pj_cons (pe_fmt (pv 1)) pj_nil))) pa_nil))))
      (qss_one (qs_xfld0 (pv 0) (pv 1)))), ?_⟩
    rcases hy with ⟨i, rfl, hi⟩ | ⟨z, rfl, hz⟩
    · refine ⟨_, rfl, _, rfl, by decide +kernel, _, rfl, Or.inl ⟨_, rfl, hi, _, rfl, fitA (by decide +kernel) (Nat.le_trans (txtI hi) (by decide)), fitA (by decide +kernel) (Nat.le_trans (txtI hi) (by decide)), _, _, _, _, rfl, hx, T.fam.c _ (by decide), ?_⟩⟩
      exact ⟨_, rfl, _, rfl, _, _, rfl, hx, T.fam.x _ (by decide), T.n_NoName_name, fun p hp hne => q p hp hne⟩
    · refine ⟨_, rfl, _, rfl, by decide +kernel, _, rfl, Or.inr ⟨_, rfl, Nat.le_trans hz line_big, _, rfl, fitA (by decide +kernel) (by omega), fitA (by decide +kernel) (by omega), _, _, _, _, rfl, hx, T.fam.c _ (by decide), ?_⟩⟩
      exact ⟨_, rfl, _, rfl, _, _, rfl, hx, T.fam.x _ (by decide), T.n_NoName_name, fun p hp hne => q p hp hne⟩

theorem ok_i_Fault {C : Nat → Addr} (T : Tx K mg C) {f : Addr} {fd : FuncData} (F : Fun K "__init__" "Fault.__init__" s_i_Fault f fd) : FnOk P w K mg base CX0 1 f fd psPIFault (spIniF K (C 12)) := by
  refine F.ok scPIFault (fun vs H Q E h => ?_) (fun cdv A outer s H vs Q E hr h => ?_)
  · obtain ⟨x, w, t, z, n, xs, rfl, _⟩ := h
    rfl
  · obtain ⟨x, w, t, z, n, xs, rfl, hx, hw, hz, hn, ht, hxs, q⟩ := h
    refine ⟨_, QSs.h (qss_cons (qs_expr (pe_xinit (by rfl) T.c_HouseError T.ini1 T.ini2 T.ini3 (pa_cons (pv 0) (pa_cons (pe_joined (pj_cons (pe_fmt (pv 1)) (pj_cons pe_str (pj_cons (pe_fmt (pv 3)) (pj_cons pe_str (pj_cons (pe_fmt (pv 4)) pj_nil)))))) pa_nil))))
      (qss_cons (qs_xfld0 (pv 0) (pv 1))
      (qss_cons (qs_xfld1 (pv 0) (pe_callTy call_list_of (by rfl) T.t_list PyProof.Rows.boot_list (pa_cons (pv 2) pa_nil)))
      (qss_cons (qs_xfld1 (pv 0) (pv 3))
      (qss_one (qs_xfld1 (pv 0) (pv 4))))))), ?_⟩
    have l0 : Str.empty.length = 0 := by decide +kernel
    have l1 : ((" " : Str)).length = 1 := by decide +kernel
    have l2 : ((": " : Str)).length = 2 := by decide +kernel
    have cx := T.fam.x 12 (by decide)
    have fit : ∀ k : Nat, k ≤ 1000 → k ≤ sizeLine := fun k h => Nat.le_trans h line_big
    have d1 : ¬ (("word" : Str) = "trail") := by decide +kernel
    have d2 : ¬ (("word" : Str) = "whose") := by decide +kernel
    have d3 : ¬ (("trail" : Str) = "whose") := by decide +kernel
    have d4 : ¬ (("word" : Str) = "name") := by decide +kernel
    have d5 : ¬ (("trail" : Str) = "name") := by decide +kernel
    have d6 : ¬ (("whose" : Str) = "name") := by decide +kernel
    refine ⟨_, rfl, _, rfl, Or.inr ⟨_, rfl, fit _ (by omega), _, rfl, fit _ ?_, _, rfl, fit _ ?_, _, rfl, Or.inr ⟨_, rfl, fit _ (by omega), _, rfl, fit _ ?_, _, rfl, fit _ ?_, _, rfl, Or.inr ⟨_, rfl, fit _ (by omega), _, rfl, fit _ ?_, fit _ ?_, _, _, _, _, rfl, hx, T.fam.c _ (by decide), ?rest⟩⟩⟩⟩
    case rest =>
      refine ⟨_, rfl, _, rfl, _, _, rfl, hx, cx, T.n_Fault_word, fun p hp hne => ?_⟩
      have tx : t ≠ x := ne_of ht hx (by intro e; cases e)
      have tp : t ≠ p := ne_of_none ht hp
      have ht1 : upd (upd H p (XdO p [("word", V.str w)])) x (ExO x (C 12) (some p)) t = some (.lst xs) := by rw [upd_ne tx, upd_ne tp]; exact ht
      refine ⟨_, rfl, _, _, rfl, Or.inl (SqL.of ht1), fun r hr => ?_⟩
      have xr : x ≠ r := ne_of_none upd_same hr
      have pr : p ≠ r := ne_of_none (by rw [upd_ne hne, upd_same]) hr
      have hr0 : H r = none := by rw [upd_ne xr.symm, upd_ne pr.symm] at hr; exact hr
      have e2 : putF "trail" (V.ref r) [("word", V.str w)] = ([("word", V.str w), ("trail", V.ref r)] : List (Str × V)) := by simp only [putF, if_neg d1]
      have e3 : putF "whose" (V.str z) ([("word", V.str w), ("trail", V.ref r)] : List (Str × V)) = ([("word", V.str w), ("trail", V.ref r), ("whose", V.str z)] : List (Str × V)) := by simp only [putF, if_neg d2, if_neg d3]
      have e4 : putF "name" (V.str n) [("word", V.str w), ("trail", V.ref r), ("whose", V.str z)] = fsF w z n r := by simp only [putF, if_neg d4, if_neg d5, if_neg d6, fsF]
      refine ⟨_, rfl, _, _, _, ([("word", V.str w)] : List (Str × V)), rfl, put2 hr, Same.new hr p _ (by rw [upd_ne hne, upd_same]), cx, T.n_Fault_trail, (show 1 < 1000 by decide), ?_⟩
      rw [e2]
      refine ⟨_, rfl, _, rfl, _, _, _, ([("word", V.str w), ("trail", V.ref r)] : List (Str × V)), rfl, by rw [upd_ne hne.symm]; exact put2 hr, upd_same, cx, T.n_Fault_whose, (show 2 < 1000 by decide), ?_⟩
      rw [e3]
      refine ⟨_, rfl, _, rfl, _, _, _, ([("word", V.str w), ("trail", V.ref r), ("whose", V.str z)] : List (Str × V)), rfl, by rw [upd_ne hne.symm, upd_ne hne.symm]; exact put2 hr, upd_same, cx, T.n_Fault_name, (show 3 < 1000 by decide), ?_⟩
      rw [e4]
      refine q p r _ hp hr0 hne xr.symm pr.symm (fun b o hb e => ?_) (by rw [upd_ne hne.symm, upd_ne hne.symm, upd_ne hne.symm]; exact put2 hr) upd_same (by rw [upd_ne pr.symm, upd_ne pr.symm, upd_ne pr.symm, upd_same])
      have bp : b ≠ p := ne_of_none e hp
      have br : b ≠ r := ne_of_none e hr0
      rw [upd_ne bp, upd_ne bp, upd_ne bp, upd_ne br, upd_ne hb, upd_ne bp]; exact e
    all_goals (simp only [appLen, l0, l1, l2]; omega)

theorem ok_law_flags {C : Nat → Addr} (T : Tx K mg C) {f : Addr} {fd : FuncData} (F : Fun K "_law_flags" "_law_flags" s_law_flags f fd) : FnOk P w K mg base CX0 1 f fd psFlags (spFlags C) := by
  refine F.ok scFlags (fun vs H Q E h => ?_) (fun cdv A outer s H vs Q E hr h => ?_)
  · obtain ⟨a, i, fs, rfl, _⟩ := h
    rfl
  · obtain ⟨a, i, fs, rfl, hi, x, q⟩ := h
    refine ⟨_, QSs.h (qss_cons (qs_set (i := 1) scFlags.nd rfl (Or.inl rfl) (pe_lst (pa_cons (pe_callB call_instX (by rfl) T.inst PyProof.Rows.boot_isinstance (pa_cons (pv 0) (pa_cons (pgl_ref T.c_NoText) pa_nil))) (pa_cons (pe_callB call_instX (by rfl) T.inst PyProof.Rows.boot_isinstance (pa_cons (pv 0) (pa_cons (pgl_ref T.c_TooMany) pa_nil))) (pa_cons (pe_callB call_instX (by rfl) T.inst PyProof.Rows.boot_isinstance (pa_cons (pv 0) (pa_cons (pgl_ref T.c_Twice) pa_nil))) (pa_cons (pe_callB call_instX (by rfl) T.inst PyProof.Rows.boot_isinstance (pa_cons (pv 0) (pa_cons (pgl_ref T.c_Double) pa_nil))) pa_nil))))))
      (qss_cons (qs_set (i := 1) scFlags.nd rfl (Or.inl rfl) (pe_op op_cat (pv 1) (pe_lst (pa_cons (pe_callB call_instX (by rfl) T.inst PyProof.Rows.boot_isinstance (pa_cons (pv 0) (pa_cons (pgl_ref T.c_Orphan) pa_nil))) (pa_cons (pe_callB call_instX (by rfl) T.inst PyProof.Rows.boot_isinstance (pa_cons (pv 0) (pa_cons (pgl_ref T.c_Clash) pa_nil))) (pa_cons (pe_callB call_instX (by rfl) T.inst PyProof.Rows.boot_isinstance (pa_cons (pv 0) (pa_cons (pgl_ref T.c_NoRow) pa_nil))) (pa_cons (pe_callB call_instX (by rfl) T.inst PyProof.Rows.boot_isinstance (pa_cons (pv 0) (pa_cons (pgl_ref T.c_NoPart) pa_nil))) pa_nil)))))))
      (qss_cons (qs_set (i := 1) scFlags.nd rfl (Or.inl rfl) (pe_op op_cat (pv 1) (pe_lst (pa_cons (pe_callB call_instX (by rfl) T.inst PyProof.Rows.boot_isinstance (pa_cons (pv 0) (pa_cons (pgl_ref T.c_NoDrop) pa_nil))) (pa_cons (pe_callB call_instX (by rfl) T.inst PyProof.Rows.boot_isinstance (pa_cons (pv 0) (pa_cons (pgl_ref T.c_NoName) pa_nil))) (pa_cons (pe_callB call_instX (by rfl) T.inst PyProof.Rows.boot_isinstance (pa_cons (pv 0) (pa_cons (pgl_ref T.c_NoExpr) pa_nil))) (pa_cons (pe_callB call_instX (by rfl) T.inst PyProof.Rows.boot_isinstance (pa_cons (pv 0) (pa_cons (pgl_ref T.c_TooWide) pa_nil))) pa_nil)))))))
      (qss_one (qs_ret (pe_op op_cat (pv 1) (pe_lst (pa_cons (pe_callB call_instX (by rfl) T.inst PyProof.Rows.boot_isinstance (pa_cons (pv 0) (pa_cons (pgl_ref T.c_Fault) pa_nil))) pa_nil)))))))), ?_⟩
    have s4 : 4 ≤ sizeLine := by decide
    have s1' : 1 ≤ sizeLine := by decide
    have s8 : 4 + 4 ≤ sizeLine := by decide
    have s12 : 8 + 4 ≤ sizeLine := by decide
    have s13 : 12 + 1 ≤ sizeLine := by decide
    obtain ⟨dx, e0, d0⟩ := x.dict
    refine ⟨_, rfl, _, _, _, _, _, _, rfl, rfl, e0, d0, T.fam.x i hi, T.fam.k i 0 hi (by decide), ⟨_, rfl, _, _, _, _, _, _, rfl, rfl, e0, d0, T.fam.x i hi, T.fam.k i 1 hi (by decide), ⟨_, rfl, _, _, _, _, _, _, rfl, rfl, e0, d0, T.fam.x i hi, T.fam.k i 2 hi (by decide), ⟨_, rfl, _, _, _, _, _, _, rfl, rfl, e0, d0, T.fam.x i hi, T.fam.k i 3 hi (by decide), ⟨s4, fun p1 h1 => ?_⟩⟩⟩⟩⟩
    obtain ⟨dx, e1, d1⟩ := (x.same (Same.new h1)).dict
    refine ⟨_, rfl, ⟨_, rfl, _, _, _, _, _, _, rfl, rfl, e1, d1, T.fam.x i hi, T.fam.k i 4 hi (by decide), ⟨_, rfl, _, _, _, _, _, _, rfl, rfl, e1, d1, T.fam.x i hi, T.fam.k i 5 hi (by decide), ⟨_, rfl, _, _, _, _, _, _, rfl, rfl, e1, d1, T.fam.x i hi, T.fam.k i 6 hi (by decide), ⟨_, rfl, _, _, _, _, _, _, rfl, rfl, e1, d1, T.fam.x i hi, T.fam.k i 7 hi (by decide), ⟨s4, fun p2 h2 => ?_⟩⟩⟩⟩⟩⟩
    refine ⟨_, _, _, _, rfl, rfl, put2 h2, upd_same, s8, fun p3 h3 => ?_⟩
    obtain ⟨dx, e2, d2⟩ := (x.same (((Same.new h1).put h2).put h3)).dict
    refine ⟨_, rfl, ⟨_, rfl, _, _, _, _, _, _, rfl, rfl, e2, d2, T.fam.x i hi, T.fam.k i 8 hi (by decide), ⟨_, rfl, _, _, _, _, _, _, rfl, rfl, e2, d2, T.fam.x i hi, T.fam.k i 9 hi (by decide), ⟨_, rfl, _, _, _, _, _, _, rfl, rfl, e2, d2, T.fam.x i hi, T.fam.k i 10 hi (by decide), ⟨_, rfl, _, _, _, _, _, _, rfl, rfl, e2, d2, T.fam.x i hi, T.fam.k i 11 hi (by decide), ⟨s4, fun p4 h4 => ?_⟩⟩⟩⟩⟩⟩
    refine ⟨_, _, _, _, rfl, rfl, put2 h4, upd_same, s12, fun p5 h5 => ?_⟩
    obtain ⟨dx, e3, d3⟩ := (x.same (((((Same.new h1).put h2).put h3).put h4).put h5)).dict
    refine ⟨_, rfl, ⟨_, rfl, _, _, _, _, _, _, rfl, rfl, e3, d3, T.fam.x i hi, T.fam.k i 12 hi (by decide), ⟨s1', fun p6 h6 => ?_⟩⟩⟩
    refine ⟨_, _, _, _, rfl, rfl, put2 h6, upd_same, s13, fun p7 h7 => ?_⟩
    refine q _ p7 (((((((Same.new h1).put h2).put h3).put h4).put h5).put h6).put h7) ?_
    rw [upd_same]
    simp [flagsL, List.range, List.range.loop]

theorem ok_law_placed {C : Nat → Addr} (T : Tx K mg C) {f : Addr} {fd : FuncData} (F : Fun K "_law_placed" "_law_placed" s_law_placed f fd) : FnOk P w K mg base CX0 3 f fd psPlaced (spPlaced C) := by
  obtain ⟨f_i_NoRow, fd_i_NoRow, A_i_NoRow⟩ := T.i_NoRow
  have G_i_NoRow : FnOk P w K mg base CX0 1 f_i_NoRow fd_i_NoRow psPINoRow (spIni (C 6) "at") := ok_i_NoRow T A_i_NoRow.F
  obtain ⟨f_i_NoText, fd_i_NoText, A_i_NoText⟩ := T.i_NoText
  have G_i_NoText : FnOk P w K mg base CX0 1 f_i_NoText fd_i_NoText psPINoText (spIni (C 0) "at") := ok_i_NoText T A_i_NoText.F
  obtain ⟨f_i_TooMany, fd_i_TooMany, A_i_TooMany⟩ := T.i_TooMany
  have G_i_TooMany : FnOk P w K mg base CX0 1 f_i_TooMany fd_i_TooMany psPITooMany (spIni (C 1) "at") := ok_i_TooMany T A_i_TooMany.F
  obtain ⟨f_i_Twice, fd_i_Twice, A_i_Twice⟩ := T.i_Twice
  have G_i_Twice : FnOk P w K mg base CX0 1 f_i_Twice fd_i_Twice psPITwice (spIni (C 2) "at") := ok_i_Twice T A_i_Twice.F
  obtain ⟨f_i_Double, fd_i_Double, A_i_Double⟩ := T.i_Double
  have G_i_Double : FnOk P w K mg base CX0 1 f_i_Double fd_i_Double psPIDouble (spIni (C 3) "at") := ok_i_Double T A_i_Double.F
  obtain ⟨f_i_Orphan, fd_i_Orphan, A_i_Orphan⟩ := T.i_Orphan
  have G_i_Orphan : FnOk P w K mg base CX0 1 f_i_Orphan fd_i_Orphan psPIOrphan (spIni (C 4) "at") := ok_i_Orphan T A_i_Orphan.F
  obtain ⟨f_i_Clash, fd_i_Clash, A_i_Clash⟩ := T.i_Clash
  have G_i_Clash : FnOk P w K mg base CX0 1 f_i_Clash fd_i_Clash psPIClash (spIni (C 5) "at") := ok_i_Clash T A_i_Clash.F
  refine F.ok scPlaced (fun vs H Q E h => ?_) (fun cdv A outer s H vs Q E hr h => ?_)
  · obtain ⟨i, n, rfl, _⟩ := h
    rfl
  · obtain ⟨i, n, rfl, hi, hn, q⟩ := h
    have hr2 : Room 2 _ := hr
    refine ⟨_, QSs.h (qss_cons (qs_if (pt_cmpR op_eq (pv 0) pe_int (nomark _)) (qss_one (qs_ret (xmake A_i_NoText G_i_NoText hr2 T.c_NoText (T.fam.c 0 (by decide)) (pa_cons (pv 1) pa_nil)))) qss_nil)
      (qss_cons (qs_if (pt_cmpR op_eq (pv 0) pe_int (nomark _)) (qss_one (qs_ret (xmake A_i_TooMany G_i_TooMany hr2 T.c_TooMany (T.fam.c 1 (by decide)) (pa_cons (pv 1) pa_nil)))) qss_nil)
      (qss_cons (qs_if (pt_cmpR op_eq (pv 0) pe_int (nomark _)) (qss_one (qs_ret (xmake A_i_Twice G_i_Twice hr2 T.c_Twice (T.fam.c 2 (by decide)) (pa_cons (pv 1) pa_nil)))) qss_nil)
      (qss_cons (qs_if (pt_cmpR op_eq (pv 0) pe_int (nomark _)) (qss_one (qs_ret (xmake A_i_Double G_i_Double hr2 T.c_Double (T.fam.c 3 (by decide)) (pa_cons (pv 1) pa_nil)))) qss_nil)
      (qss_cons (qs_if (pt_cmpR op_eq (pv 0) pe_int (nomark _)) (qss_one (qs_ret (xmake A_i_Orphan G_i_Orphan hr2 T.c_Orphan (T.fam.c 4 (by decide)) (pa_cons (pv 1) pa_nil)))) qss_nil)
      (qss_cons (qs_if (pt_cmpR op_eq (pv 0) pe_int (nomark _)) (qss_one (qs_ret (xmake A_i_Clash G_i_Clash hr2 T.c_Clash (T.fam.c 5 (by decide)) (pa_cons (pv 1) pa_nil)))) qss_nil)
      (qss_one (qs_ret (xmake A_i_NoRow G_i_NoRow hr2 T.c_NoRow (T.fam.c 6 (by decide)) (pa_cons (pv 1) pa_nil)))))))))), ?_⟩
    have hc : i = 0 ∨ i = 1 ∨ i = 2 ∨ i = 3 ∨ i = 4 ∨ i = 5 ∨ i = 6 := by omega
    rcases hc with rfl | rfl | rfl | rfl | rfl | rfl | rfl
    · exact ⟨_, rfl, rfl, _, rfl, iteTb (by decide) ⟨_, rfl, fun x hx => ⟨x, _, rfl, upd_same, Or.inl ⟨_, rfl, hn⟩, fun p hp hne => ⟨rfl, q _ x (isx_new hx hp hne).1 (isx_new hx hp hne).2⟩⟩⟩⟩
    · exact ⟨_, rfl, rfl, _, rfl, iteFb (by decide) ⟨_, rfl, rfl, _, rfl, iteTb (by decide) ⟨_, rfl, fun x hx => ⟨x, _, rfl, upd_same, Or.inl ⟨_, rfl, hn⟩, fun p hp hne => ⟨rfl, q _ x (isx_new hx hp hne).1 (isx_new hx hp hne).2⟩⟩⟩⟩⟩
    · exact ⟨_, rfl, rfl, _, rfl, iteFb (by decide) ⟨_, rfl, rfl, _, rfl, iteFb (by decide) ⟨_, rfl, rfl, _, rfl, iteTb (by decide) ⟨_, rfl, fun x hx => ⟨x, _, rfl, upd_same, Or.inl ⟨_, rfl, hn⟩, fun p hp hne => ⟨rfl, q _ x (isx_new hx hp hne).1 (isx_new hx hp hne).2⟩⟩⟩⟩⟩⟩
    · exact ⟨_, rfl, rfl, _, rfl, iteFb (by decide) ⟨_, rfl, rfl, _, rfl, iteFb (by decide) ⟨_, rfl, rfl, _, rfl, iteFb (by decide) ⟨_, rfl, rfl, _, rfl, iteTb (by decide) ⟨_, rfl, fun x hx => ⟨x, _, rfl, upd_same, Or.inl ⟨_, rfl, hn⟩, fun p hp hne => ⟨rfl, q _ x (isx_new hx hp hne).1 (isx_new hx hp hne).2⟩⟩⟩⟩⟩⟩⟩
    · exact ⟨_, rfl, rfl, _, rfl, iteFb (by decide) ⟨_, rfl, rfl, _, rfl, iteFb (by decide) ⟨_, rfl, rfl, _, rfl, iteFb (by decide) ⟨_, rfl, rfl, _, rfl, iteFb (by decide) ⟨_, rfl, rfl, _, rfl, iteTb (by decide) ⟨_, rfl, fun x hx => ⟨x, _, rfl, upd_same, Or.inl ⟨_, rfl, hn⟩, fun p hp hne => ⟨rfl, q _ x (isx_new hx hp hne).1 (isx_new hx hp hne).2⟩⟩⟩⟩⟩⟩⟩⟩
    · exact ⟨_, rfl, rfl, _, rfl, iteFb (by decide) ⟨_, rfl, rfl, _, rfl, iteFb (by decide) ⟨_, rfl, rfl, _, rfl, iteFb (by decide) ⟨_, rfl, rfl, _, rfl, iteFb (by decide) ⟨_, rfl, rfl, _, rfl, iteFb (by decide) ⟨_, rfl, rfl, _, rfl, iteTb (by decide) ⟨_, rfl, fun x hx => ⟨x, _, rfl, upd_same, Or.inl ⟨_, rfl, hn⟩, fun p hp hne => ⟨rfl, q _ x (isx_new hx hp hne).1 (isx_new hx hp hne).2⟩⟩⟩⟩⟩⟩⟩⟩⟩
    · exact ⟨_, rfl, rfl, _, rfl, iteFb (by decide) ⟨_, rfl, rfl, _, rfl, iteFb (by decide) ⟨_, rfl, rfl, _, rfl, iteFb (by decide) ⟨_, rfl, rfl, _, rfl, iteFb (by decide) ⟨_, rfl, rfl, _, rfl, iteFb (by decide) ⟨_, rfl, rfl, _, rfl, iteFb (by decide) ⟨_, rfl, fun x hx => ⟨x, _, rfl, upd_same, Or.inl ⟨_, rfl, hn⟩, fun p hp hne => ⟨rfl, q _ x (isx_new hx hp hne).1 (isx_new hx hp hne).2⟩⟩⟩⟩⟩⟩⟩⟩⟩

theorem ok_law_worded {C : Nat → Addr} (T : Tx K mg C) {f : Addr} {fd : FuncData} (F : Fun K "_law_worded" "_law_worded" s_law_worded f fd) : FnOk P w K mg base CX0 3 f fd psWorded (spWorded C) := by
  obtain ⟨f_i_NoPart, fd_i_NoPart, A_i_NoPart⟩ := T.i_NoPart
  have G_i_NoPart : FnOk P w K mg base CX0 1 f_i_NoPart fd_i_NoPart psPINoPart (spIni (C 7) "address") := ok_i_NoPart T A_i_NoPart.F
  obtain ⟨f_i_NoDrop, fd_i_NoDrop, A_i_NoDrop⟩ := T.i_NoDrop
  have G_i_NoDrop : FnOk P w K mg base CX0 1 f_i_NoDrop fd_i_NoDrop psPINoDrop (spIni (C 8) "address") := ok_i_NoDrop T A_i_NoDrop.F
  obtain ⟨f_i_NoName, fd_i_NoName, A_i_NoName⟩ := T.i_NoName
  have G_i_NoName : FnOk P w K mg base CX0 1 f_i_NoName fd_i_NoName psPINoName (spIni (C 9) "name") := ok_i_NoName T A_i_NoName.F
  refine F.ok scWorded (fun vs H Q E h => ?_) (fun cdv A outer s H vs Q E hr h => ?_)
  · obtain ⟨i, z, rfl, _⟩ := h
    rfl
  · obtain ⟨i, z, rfl, h7, h12, hz, q⟩ := h
    have hr2 : Room 2 _ := hr
    refine ⟨_, QSs.h (qss_cons (qs_if (pt_cmpR op_eq (pv 0) pe_int (nomark _)) (qss_one (qs_ret (xmake A_i_NoPart G_i_NoPart hr2 T.c_NoPart (T.fam.c 7 (by decide)) (pa_cons (pv 1) pa_nil)))) qss_nil)
      (qss_cons (qs_if (pt_cmpR op_eq (pv 0) pe_int (nomark _)) (qss_one (qs_ret (xmake A_i_NoDrop G_i_NoDrop hr2 T.c_NoDrop (T.fam.c 8 (by decide)) (pa_cons (pv 1) pa_nil)))) qss_nil)
      (qss_cons (qs_if (pt_cmpR op_eq (pv 0) pe_int (nomark _)) (qss_one (qs_ret (xmake A_i_NoName G_i_NoName hr2 T.c_NoName (T.fam.c 9 (by decide)) (pa_cons (pv 1) pa_nil)))) qss_nil)
      (qss_cons (qs_if (pt_cmpR op_eq (pv 0) pe_int (nomark _)) (qss_one (qs_ret (pe_makeX0 (T.fam.c 10 (by decide)) T.j_NoExpr T.k_NoExpr (by rfl) T.c_NoExpr (pa_cons (pv 1) pa_nil)))) qss_nil)
      (qss_cons (qs_if (pt_cmpR op_eq (pv 0) pe_int (nomark _)) (qss_one (qs_ret (pe_makeX0 (T.fam.c 11 (by decide)) T.j_TooWide T.k_TooWide (by rfl) T.c_TooWide (pa_cons (pv 1) pa_nil)))) qss_nil)
      (qss_one (qs_ret (pe_makeX0 (T.fam.c 13 (by decide)) T.j_HouseError T.k_HouseError (by rfl) T.c_HouseError (pa_cons (pv 1) pa_nil))))))))), ?_⟩
    have hc : i = 7 ∨ i = 8 ∨ i = 9 ∨ i = 10 ∨ i = 11 ∨ i = 12 := by omega
    rcases hc with rfl | rfl | rfl | rfl | rfl | rfl
    · exact ⟨_, rfl, rfl, _, rfl, iteTb (by decide) ⟨_, rfl, fun x hx => ⟨x, _, rfl, upd_same, Or.inr ⟨_, rfl, hz⟩, fun p hp hne => ⟨rfl, q _ x (isx_new hx hp hne).1 (isx_new hx hp hne).2⟩⟩⟩⟩
    · exact ⟨_, rfl, rfl, _, rfl, iteFb (by decide) ⟨_, rfl, rfl, _, rfl, iteTb (by decide) ⟨_, rfl, fun x hx => ⟨x, _, rfl, upd_same, Or.inr ⟨_, rfl, hz⟩, fun p hp hne => ⟨rfl, q _ x (isx_new hx hp hne).1 (isx_new hx hp hne).2⟩⟩⟩⟩⟩
    · exact ⟨_, rfl, rfl, _, rfl, iteFb (by decide) ⟨_, rfl, rfl, _, rfl, iteFb (by decide) ⟨_, rfl, rfl, _, rfl, iteTb (by decide) ⟨_, rfl, fun x hx => ⟨x, _, rfl, upd_same, Or.inr ⟨_, rfl, hz⟩, fun p hp hne => ⟨rfl, q _ x (isx_new hx hp hne).1 (isx_new hx hp hne).2⟩⟩⟩⟩⟩⟩
    · exact ⟨_, rfl, rfl, _, rfl, iteFb (by decide) ⟨_, rfl, rfl, _, rfl, iteFb (by decide) ⟨_, rfl, rfl, _, rfl, iteFb (by decide) ⟨_, rfl, rfl, _, rfl, iteTb (by decide) ⟨_, rfl, rfl, fun x hx => q _ x (Same.new hx) ⟨none, upd_same, Or.inl ⟨rfl, rfl⟩⟩⟩⟩⟩⟩⟩
    · exact ⟨_, rfl, rfl, _, rfl, iteFb (by decide) ⟨_, rfl, rfl, _, rfl, iteFb (by decide) ⟨_, rfl, rfl, _, rfl, iteFb (by decide) ⟨_, rfl, rfl, _, rfl, iteFb (by decide) ⟨_, rfl, rfl, _, rfl, iteTb (by decide) ⟨_, rfl, rfl, fun x hx => q _ x (Same.new hx) ⟨none, upd_same, Or.inl ⟨rfl, rfl⟩⟩⟩⟩⟩⟩⟩⟩
    · exact ⟨_, rfl, rfl, _, rfl, iteFb (by decide) ⟨_, rfl, rfl, _, rfl, iteFb (by decide) ⟨_, rfl, rfl, _, rfl, iteFb (by decide) ⟨_, rfl, rfl, _, rfl, iteFb (by decide) ⟨_, rfl, rfl, _, rfl, iteFb (by decide) ⟨_, rfl, rfl, fun x hx => q _ x (Same.new hx) ⟨none, upd_same, Or.inl ⟨rfl, rfl⟩⟩⟩⟩⟩⟩⟩⟩

theorem ok_law_keeps {C : Nat → Addr} (T : Tx K mg C) {f : Addr} {fd : FuncData} (F : Fun K "_law_keeps" "_law_keeps" s_law_keeps f fd) : FnOk P w K mg base CX0 1 f fd psKeeps (spKeeps C) := by
  refine F.ok scKeeps (fun vs H Q E h => ?_) (fun cdv A outer s H vs Q E hr h => ?_)
  · obtain ⟨a, i, n, z, rfl, _⟩ := h
    rfl
  · obtain ⟨a, i, n, z, rfl, hi, hz, xa, xw, q⟩ := h
    refine ⟨_, QSs.h (qss_cons (qs_if (pt_cmpR op_lt (pv 1) pe_int (nomark _)) (qss_one (qs_ret (pe_and (pe_callB call_inst (by rfl) T.inst PyProof.Rows.boot_isinstance (pa_cons (pe_xfld (pv 0) rfl) (pa_cons (pe_bltn (v := .ty "int") (by rfl) T.t_int PyProof.Rows.boot_int rfl) pa_nil))) (pe_and (pe_not (pe_callB call_inst (by rfl) T.inst PyProof.Rows.boot_isinstance (pa_cons (pe_xfld (pv 0) rfl) (pa_cons (pe_bltn (v := .ty "bool") (by rfl) T.t_bool PyProof.Rows.boot_bool rfl) pa_nil)))) (pe_one (pe_cmpR op_eq (pe_xfld (pv 0) rfl) (pv 2) (nomark _))))))) qss_nil)
      (qss_cons (qs_if (pt_cmpR op_lt (pv 1) pe_int (nomark _)) (qss_one (qs_ret (pe_and (pe_callB call_inst (by rfl) T.inst PyProof.Rows.boot_isinstance (pa_cons (pe_xfld (pv 0) rfl) (pa_cons (pe_bltn (v := .ty "str") (by rfl) T.t_str PyProof.Rows.boot_str rfl) pa_nil))) (pe_one (pe_cmpR op_eq (pe_xfld (pv 0) rfl) (pv 3) (nomark _)))))) qss_nil)
      (qss_one (qs_ret (pe_or (pe_cmpR op_ne (pv 1) pe_int (nomark _)) (pe_one (pe_and (pe_callB call_inst (by rfl) T.inst PyProof.Rows.boot_isinstance (pa_cons (pe_xfld (pv 0) rfl) (pa_cons (pe_bltn (v := .ty "str") (by rfl) T.t_str PyProof.Rows.boot_str rfl) pa_nil))) (pe_one (pe_cmpR op_eq (pe_xfld (pv 0) rfl) (pv 3) (nomark _)))))))))), ?_⟩
    have nAt : ∀ i, i ≤ 6 → NoAttr K (C i) "at" := fun i h => match i, h with | 0, _ => T.n_NoText_at | 1, _ => T.n_TooMany_at | 2, _ => T.n_Twice_at | 3, _ => T.n_Double_at | 4, _ => T.n_Orphan_at | 5, _ => T.n_Clash_at | 6, _ => T.n_NoRow_at
    have q0 := q H (Same.refl H)
    by_cases h6 : i ≤ 6
    · obtain ⟨p, e1, e2⟩ := isx_fld (xa h6)
      have cx := T.fam.x i (by omega)
      refine ⟨_, rfl, _, _, rfl, rfl, _, rfl, iteTb (decide_eq_true (by omega)) ?_⟩
      refine ⟨_, rfl, _, _, _, _, _, rfl, e1, e2, cx, nAt i h6, rfl, _, _, _, _, rfl, .int _, kit_same, _, rfl, iteTb rfl ?_⟩
      refine ⟨_, rfl, _, _, _, _, _, rfl, e1, e2, cx, nAt i h6, rfl, _, _, _, _, rfl, .int _, kit_ty (b := false) (by decide) (by decide +kernel) (by decide +kernel), _, rfl, _, rfl, iteTb rfl ?_⟩
      exact ⟨_, rfl, _, _, _, _, _, rfl, e1, e2, cx, nAt i h6, rfl, _, rfl, rfl, QblT rfl q0⟩
    · refine ⟨_, rfl, _, _, rfl, rfl, _, rfl, iteFb (decide_eq_false (by omega)) ?_⟩
      have hc : i = 7 ∨ i = 8 ∨ i = 9 ∨ (10 ≤ i) := by omega
      rcases hc with rfl | rfl | rfl | h10
      · obtain ⟨p, e1, e2⟩ := isx_fld (xw (by decide))
        have cx := T.fam.x 7 (by decide)
        refine ⟨_, rfl, _, _, rfl, rfl, _, rfl, iteTb (by decide) ?_⟩
        refine ⟨_, rfl, _, _, _, _, _, rfl, e1, e2, cx, T.n_NoPart_address, rfl, _, _, _, _, rfl, .str _, kit_same, _, rfl, iteTb rfl ?_⟩
        exact ⟨_, rfl, _, _, _, _, _, rfl, e1, e2, cx, T.n_NoPart_address, rfl, _, rfl, rfl, QblT rfl q0⟩
      · obtain ⟨p, e1, e2⟩ := isx_fld (xw (by decide))
        have cx := T.fam.x 8 (by decide)
        refine ⟨_, rfl, _, _, rfl, rfl, _, rfl, iteTb (by decide) ?_⟩
        refine ⟨_, rfl, _, _, _, _, _, rfl, e1, e2, cx, T.n_NoDrop_address, rfl, _, _, _, _, rfl, .str _, kit_same, _, rfl, iteTb rfl ?_⟩
        exact ⟨_, rfl, _, _, _, _, _, rfl, e1, e2, cx, T.n_NoDrop_address, rfl, _, rfl, rfl, QblT rfl q0⟩
      · obtain ⟨p, e1, e2⟩ := isx_fld (xw (by decide))
        have cx := T.fam.x 9 (by decide)
        refine ⟨_, rfl, _, _, rfl, rfl, _, rfl, iteFb (by decide) ?_⟩
        refine ⟨_, rfl, rfl, _, rfl, iteFb (by decide) ?_⟩
        refine ⟨_, rfl, _, _, _, _, _, rfl, e1, e2, cx, T.n_NoName_name, rfl, _, _, _, _, rfl, .str _, kit_same, _, rfl, iteTb rfl ?_⟩
        exact ⟨_, rfl, _, _, _, _, _, rfl, e1, e2, cx, T.n_NoName_name, rfl, _, rfl, rfl, QblT rfl q0⟩
      · refine ⟨_, rfl, _, _, rfl, rfl, _, rfl, iteFb (decide_eq_false (by omega)) ?_⟩
        refine ⟨_, rfl, rfl, _, rfl, iteTb ?_ q0⟩
        rw [Bool.not_eq_true', decide_eq_false_iff_not]
        intro e
        have e2 := V.int.inj e
        omega

theorem ok_law_fault {C : Nat → Addr} (T : Tx K mg C) {f : Addr} {fd : FuncData} (F : Fun K "_law_fault" "_law_fault" s_law_fault f fd) : FnOk P w K mg base CX0 4 f fd psFault spFault := by
  obtain ⟨f_law_flags, fd_law_flags, A_law_flags⟩ := T.a_law_flags
  have G_law_flags : FnOk P w K mg base CX0 1 f_law_flags fd_law_flags psFlags (spFlags C) := ok_law_flags T A_law_flags.F
  obtain ⟨f_law_pick, fd_law_pick, A_law_pick⟩ := T.a_law_pick
  have G_law_pick : FnOk P w K mg base CX0 1 f_law_pick fd_law_pick psPick spPick := ok_pick A_law_pick.F
  obtain ⟨f_law_name, fd_law_name, A_law_name⟩ := T.a_law_name
  have G_law_name : FnOk P w K mg base CX0 2 f_law_name fd_law_name psName spName := ok_name A_law_name.F A_law_pick T.range
  obtain ⟨f_law_sub, fd_law_sub, A_law_sub⟩ := T.a_law_sub
  have G_law_sub : FnOk P w K mg base CX0 1 f_law_sub fd_law_sub psSub spSub := ok_sub A_law_sub.F
  obtain ⟨f_i_Fault, fd_i_Fault, A_i_Fault⟩ := T.i_Fault
  have G_i_Fault : FnOk P w K mg base CX0 1 f_i_Fault fd_i_Fault psPIFault (spIniF K (C 12)) := ok_i_Fault T A_i_Fault.F
  refine F.ok scFault (fun vs H Q E h => ?_) (fun cdv A outer s H vs Q E hr h => ?_)
  · obtain ⟨c, rfl, _⟩ := h
    rfl
  · obtain ⟨c, rfl, q⟩ := h
    have hr1 : Room 1 _ := hr.mono (by decide)
    have hr2 : Room 2 _ := hr.mono (by decide)
    refine ⟨_, QSs.h (qss_cons (qs_comp (N := ["_law_k", "_law_cell_here"]) [none, some 0] (i := 1) scFault.nd rfl (Or.inl rfl) rfl (by kernel_rfl) (pi_range1 (by rfl) T.range (pa_cons (pcall A_law_pick G_law_pick hr1 (pa_cons (pv 0) (pa_cons pe_int (pa_cons pe_int pa_nil)))) pa_nil)) (fun cl C fp s H => (pg_name (i := 0) (by decide +kernel : (["_law_k", "_law_cell_here"] : List Str).Nodup) rfl (Or.inl rfl))) (fun cl C fp s H => pf_nil) (fun cl C fp s H => (pe_tup (pa_cons (pcall A_law_name G_law_name hr2 (pa_cons (pcall A_law_sub G_law_sub hr1 (pa_cons (pv 1) (pa_cons (pv 0) pa_nil))) pa_nil)) (pa_cons (pcall A_law_pick G_law_pick hr1 (pa_cons (pv 1) (pa_cons (pe_op op_add pe_int (pv 0)) (pa_cons pe_int pa_nil)))) pa_nil)))))
      (qss_cons (qs_setQ (i := 2) scFault.nd rfl (Or.inl rfl) (qe_ix ix_list (qe_lstQ (qa_cons pe_str (qa_cons pe_str (qa_cons pe_str (qa_cons pe_str (qa_cons pe_str (qa_cons pe_str qa_nil))))))) (pcall A_law_pick G_law_pick hr1 (pa_cons (pv 0) (pa_cons pe_int (pa_cons pe_int pa_nil)))) (fun _ _ => rfl)))
      (qss_cons (qs_set (i := 3) scFault.nd rfl (Or.inl rfl) (pe_callTy call_list_of (by rfl) T.t_list PyProof.Rows.boot_list (pa_cons (pv 1) pa_nil)))
      (qss_cons (qs_set (i := 4) scFault.nd rfl (Or.inl rfl) (xmake A_i_Fault G_i_Fault hr2 T.c_Fault (T.fam.c 12 (by decide)) (pa_cons (pv 2) (pa_cons (pv 3) (pa_cons (pcall A_law_name G_law_name hr2 (pa_cons (pcall A_law_sub G_law_sub hr1 (pa_cons (pv 0) (pa_cons pe_int pa_nil))) pa_nil)) (pa_cons (pcall A_law_name G_law_name hr2 (pa_cons (pcall A_law_sub G_law_sub hr1 (pa_cons (pv 0) (pa_cons pe_int pa_nil))) pa_nil)) pa_nil))))))
      (qss_cons (qs_expr (pe_bm PySem.F.plainAttrs_list PySem.F.slot_list_append PySem.F.type_list_append mt_append (pv 3) (pa_cons (pe_tup (pa_cons pe_str (pa_cons pe_int pa_nil))) pa_nil)))
      (qss_cons (qs_set (i := 5) scFault.nd rfl (Or.inl rfl) (xmake A_i_Fault G_i_Fault hr2 T.c_Fault (T.fam.c 12 (by decide)) (pa_cons pe_str (pa_cons (pe_lst (pa_cons (pe_tup (pa_cons pe_str (pa_cons pe_int pa_nil))) pa_nil)) (pa_cons pe_str (pa_cons pe_str pa_nil))))))
      (qss_cons (qs_if (PW.pt (pw_or (pt_not (pt_val (pe_callB call_inst (by rfl) T.inst PyProof.Rows.boot_isinstance (pa_cons (pe_xfld (pv 4) rfl) (pa_cons (pe_bltn (v := .ty "list") (by rfl) T.t_list PyProof.Rows.boot_list rfl) pa_nil))))) (pw_or (pt_cmpR (op_neD (K := K) rfl hr.units) (pe_xfld (pv 4) rfl) (pv 1) (nomark _)) (pw_or (pt_cmpR (op_neD (K := K) rfl hr.units) (pe_xfld (pv 5) rfl) (pe_lst (pa_cons (pe_tup (pa_cons pe_str (pa_cons pe_int pa_nil))) pa_nil)) (nomark _)) (pw_or1 (pt_cmpR op_ne (pe_xfld (pv 5) rfl) pe_str (nomark _))))))) (qss_one (qs_ret pe_bl)) qss_nil)
      (qss_cons (qs_if (PW.pt (pw_or (pt_cmpR op_ne (pe_xfld (pv 4) rfl) (pv 2) (nomark _)) (pw_or (pt_cmpR op_ne (pe_xfld (pv 4) rfl) (pcall A_law_name G_law_name hr2 (pa_cons (pcall A_law_sub G_law_sub hr1 (pa_cons (pv 0) (pa_cons pe_int pa_nil))) pa_nil)) (nomark _)) (pw_or1 (pt_cmpR op_ne (pe_xfld (pv 4) rfl) (pcall A_law_name G_law_name hr2 (pa_cons (pcall A_law_sub G_law_sub hr1 (pa_cons (pv 0) (pa_cons pe_int pa_nil))) pa_nil)) (nomark _)))))) (qss_one (qs_ret pe_bl)) qss_nil)
      (qss_cons (qs_set (i := 6) scFault.nd rfl (Or.inl rfl) (pcall A_law_flags G_law_flags hr1 (pa_cons (pv 4) pa_nil)))
      (qss_one (qs_ret (pe_and (pe_cmpR (op_eqD (K := K) rfl hr.units) (pv 6) (pe_op op_cat (pe_op op_rep (pe_lst (pa_cons pe_bl pa_nil)) pe_int) (pe_lst (pa_cons pe_bl pa_nil))) (nomark _)) (pe_and (pe_callB call_instX (by rfl) T.inst PyProof.Rows.boot_isinstance (pa_cons (pv 4) (pa_cons (pgl_ref T.c_HouseError) pa_nil))) (pe_one (pe_callB call_instX (by rfl) T.inst PyProof.Rows.boot_isinstance (pa_cons (pv 4) (pa_cons (pe_bltn (v := .ty "ValueError") (by rfl) T.t_ValueError boot_ValueError rfl) pa_nil))))))))))))))))), ?_⟩
    have m1 := pick_ge c 9 (m := 4) (by decide)
    have m2 := pick_lt c 9 (m := 4) (by decide)
    have s6 : 6 ≤ sizeLine := by decide
    have s2' : 2 ≤ sizeLine := by decide
    have s1' : 1 ≤ sizeLine := by decide
    have cx := T.fam.x 12 (by decide)
    obtain ⟨w, hwat, hwl⟩ : ∃ w : Str, atI [V.str "unknown", V.str "unfilled", V.str "missing", V.str "nopart", V.str "nodeed", V.str "nonumber"] (pick c 1 6) = some (V.str w) ∧ w.length ≤ 100 := by
      have a1 := pick_ge c 1 (m := 6) (by decide)
      have a2 := pick_lt c 1 (m := 6) (by decide)
      have hc : pick c 1 6 = 0 ∨ pick c 1 6 = 1 ∨ pick c 1 6 = 2 ∨ pick c 1 6 = 3 ∨ pick c 1 6 = 4 ∨ pick c 1 6 = 5 := by omega
      rcases hc with e | e | e | e | e | e <;> rw [e] <;> exact ⟨_, rfl, by decide +kernel⟩
    have nl : ∀ k, (name k).length ≤ 100 := fun k => by rw [name_length]; have := nameLen_le k; omega
    refine ⟨_, rfl, c, 9, 4, rfl, by decide, by decide, by decide, fun H1 s1 => ⟨_, rfl, by omega, by omega, ?_⟩⟩
    refine comp_rangeP (fun i v H' => ∃ p, v = V.ref p) (fun i v H' H'' h s => h) (Nat.le_trans (show (pick c 9 4).toNat ≤ 8 by omega) (by decide)) (fun i H' Q' hi sm k' => ?_) (fun ys H2 s2 hl hy tr htr0 => ?_)
    · have hi' : i < (pick c 9 4).toNat := hi
      refine ⟨_, rfl, _, rfl, c, 0 + (i : Int), rfl, by omega, by omega, fun H3 s3 => ⟨_, rfl, fun H4 s4 => ?_⟩⟩
      refine ⟨_, rfl, _, rfl, _, _, rfl, rfl, c, 2 + (0 + (i : Int)), 12, rfl, by omega, by omega, by decide, fun H5 s5 => ⟨s2', fun p hp => ?_⟩⟩
      exact k' _ _ ((s3.trans (s4.trans s5)).put hp) ⟨p, rfl⟩
    have hyl : ys.length ≤ 100 := by rw [hl]; omega
    refine ⟨s6, fun pw hpw => ⟨_, rfl, c, 1, 6, rfl, by decide, by decide, by decide, fun H3 s3 => ⟨_, _, _, _, rfl, rfl, SqL.of (s3 _ _ upd_same), hwat, ?_⟩⟩⟩
    have ht3 : H3 tr = some (.lst ys) := s3 _ _ (Same.new hpw _ _ upd_same)
    have S3 : Same H H3 := (((s1.trans s2).put htr0).put hpw).trans s3
    refine ⟨_, rfl, _, _, rfl, Or.inl (SqL.of ht3), fun l hl0 => ?_⟩
    have tl : tr ≠ l := ne_of_none ht3 hl0
    refine ⟨_, rfl, _, rfl, ⟨_, rfl, c, 5, rfl, by decide, by decide, fun H4 s4 => ⟨_, rfl, fun H5 s5 => ⟨_, rfl, c, 6, rfl, by decide, by decide, fun H6 s6 => ⟨_, rfl, fun H7 s7 => ?_⟩⟩⟩⟩⟩
    intro x hx
    have S37 := s4.trans (s5.trans (s6.trans s7))
    have hl7 : H7 l = some (.lst ys) := S37 _ _ upd_same
    have ht7 : H7 tr = some (.lst ys) := S37 _ _ (Same.new hl0 _ _ ht3)
    have lx : l ≠ x := ne_of_none hl7 hx
    refine ⟨x, w, l, _, _, ys, rfl, upd_same, hwl, nl _, nl _, (by rw [upd_ne lx]; exact hl7), hyl, fun p r H8 hp hr hpx hrx hrp fr e1 e2 e3 => ⟨rfl, ?_⟩⟩
    have S78 : Same H7 H8 := fun b o e => fr b o (ne_of_none e hx) (by rw [upd_ne (ne_of_none e hx)]; exact e)
    have lr : l ≠ r := ne_of_none (show upd H7 x (ExO x (C 12) none) l = some (.lst ys) by rw [upd_ne lx]; exact hl7) hr
    have lp : l ≠ p := ne_of_none (show upd H7 x (ExO x (C 12) none) l = some (.lst ys) by rw [upd_ne lx]; exact hl7) hp
    have hlH : H l = none := by
      cases e : H l with
      | none => rfl
      | some o => have := S3 _ _ e; rw [hl0] at this; cases this
    refine ⟨_, rfl, Or.inl ⟨rfl, _, SqL.of (S78 _ _ hl7)⟩, s2', fun pa hpa => ⟨_, _, _, rfl, rfl, Same.new hpa _ _ (S78 _ _ hl7), Nat.lt_of_le_of_lt hyl (by decide), ?_⟩⟩
    have hx9 := (show upd (upd H8 pa (.tup [V.str "a", V.int 1])) l (.lst (ys ++ [V.ref pa])) x = some (ExO x (C 12) (some p)) by rw [upd_ne lx.symm]; exact Same.new hpa _ _ e1)
    have hp9 := (show upd (upd H8 pa (.tup [V.str "a", V.int 1])) l (.lst (ys ++ [V.ref pa])) p = some (XdO p (fsF w (name (sub c 5)) (name (sub c 6)) r)) by rw [upd_ne lp.symm]; exact Same.new hpa _ _ e2)
    have hr9 := (show upd (upd H8 pa (.tup [V.str "a", V.int 1])) l (.lst (ys ++ [V.ref pa])) r = some (.lst ys) by rw [upd_ne lr.symm]; exact Same.new hpa _ _ e3)
    have ht9 := (show upd (upd H8 pa (.tup [V.str "a", V.int 1])) l (.lst (ys ++ [V.ref pa])) tr = some (.lst ys) by rw [upd_ne tl]; exact Same.new hpa _ _ (S78 _ _ ht7))
    have S9 : Same H (upd (upd H8 pa (.tup [V.str "a", V.int 1])) l (.lst (ys ++ [V.ref pa]))) := ((((S3.put hl0).trans S37).trans S78).put hpa).over hlH
    generalize upd (upd H8 pa (.tup [V.str "a", V.int 1])) l (.lst (ys ++ [V.ref pa])) = H9 at hx9 hp9 hr9 ht9 S9
    refine ⟨s2', fun t2 ht2 => ⟨s1', fun l2 hl2 => ?_⟩⟩
    intro x2 hx2
    have l2x : l2 ≠ x2 := ne_of_none upd_same hx2
    refine ⟨x2, _, l2, _, _, [V.ref t2], rfl, upd_same, (by decide +kernel), (by decide +kernel), (by decide +kernel), (by rw [upd_ne l2x, upd_same]), (show 1 ≤ 100 by decide), fun p2 r2 H11 hp2 hr2 _ _ _ fr2 f1 f2 f3 => ⟨rfl, ?_⟩⟩
    have S1011 : Same (upd (upd H9 t2 (.tup [V.str "b", V.int 2])) l2 (.lst [V.ref t2])) H11 := fun b o e => fr2 b o (ne_of_none e hx2) (by rw [upd_ne (ne_of_none e hx2)]; exact e)
    have S911 : Same H9 H11 := ((Same.new ht2).put hl2).trans S1011
    have hx11 := S911 _ _ hx9
    have hp11 := S911 _ _ hp9
    have hr11 := S911 _ _ hr9
    have ht11 := S911 _ _ ht9
    have hb11 : H11 t2 = some (.tup [V.str "b", V.int 2]) := S1011 _ _ (put2 hl2)
    refine ⟨_, rfl, _, _, _, _, _, rfl, hx11, hp11, cx, T.n_Fault_trail, rfl, _, _, _, _, rfl, .lst hr11, kit_same, _, rfl, iteFb rfl ?_⟩
    refine ⟨_, rfl, _, _, _, _, _, rfl, hx11, hp11, cx, T.n_Fault_trail, rfl, _, rfl, _, _, rfl, rfl, ⟨0, ys, ys, by decide, rfl, Or.inr ⟨SqL.of hr11, SqL.of ht11⟩, fun i a b ea eb => ?_⟩, _, rfl, iteFb rfl ?_⟩
    · rw [ea] at eb; cases eb
      obtain ⟨p', rfl⟩ := hy i a ea
      exact .same _
    refine ⟨_, rfl, _, _, _, _, _, rfl, f1, f2, cx, T.n_Fault_trail, rfl, s2', fun t3 ht3' => ⟨s1', fun l3 hl3 => ?_⟩⟩
    have S12 : Same H11 (upd (upd H11 t3 (.tup [V.str "b", V.int 2])) l3 (.lst [V.ref t3])) := (Same.new ht3').put hl3
    have hb12 := (show upd (upd H11 t3 (.tup [V.str "b", V.int 2])) l3 (.lst [V.ref t3]) t3 = some (.tup [V.str "b", V.int 2]) from put2 hl3)
    refine ⟨_, _, rfl, rfl, ⟨1, [V.ref t2], [V.ref t3], by decide, rfl, Or.inr ⟨SqL.of (S12 _ _ f3), SqL.of upd_same⟩, fun i a b ea eb => ?_⟩, _, rfl, iteFb rfl ?_⟩
    · match i, ea, eb with
      | 0, ea, eb =>
        cases ea; cases eb
        refine .tup (SqT.of (S12 _ _ hb11)) (SqT.of hb12) rfl fun j a b ea eb => ?_
        match j, ea, eb with
        | 0, ea, eb => cases ea; cases eb; exact .str _
        | 1, ea, eb => cases ea; cases eb; exact .int _
        | j + 2, ea, eb => simp at ea
      | i + 1, ea, eb => simp at ea
    have S912 := S911.trans S12
    have hx12 := S912 _ _ hx9
    have hp12 := S912 _ _ hp9
    have f12 := S12 _ _ f1
    have g12 := S12 _ _ f2
    generalize upd (upd H11 t3 (.tup [V.str "b", V.int 2])) l3 (.lst [V.ref t3]) = H12 at S12 hb12 S912 hx12 hp12 f12 g12
    refine ⟨_, rfl, _, _, _, _, _, rfl, f12, g12, cx, T.n_Fault_whose, rfl, rfl, _, rfl, iteFb (by simp) ?_⟩
    refine ⟨_, rfl, _, _, _, _, _, rfl, hx12, hp12, cx, T.n_Fault_word, rfl, _, rfl, rfl, _, rfl, iteFb (by simp) ?_⟩
    refine ⟨_, rfl, _, _, _, _, _, rfl, hx12, hp12, cx, T.n_Fault_whose, rfl, _, rfl, c, 5, rfl, by decide, by decide, fun H13 s13 => ⟨_, rfl, fun H14 s14 => ⟨rfl, _, rfl, iteFb (by simp) ?_⟩⟩⟩
    have hx14 := s14 _ _ (s13 _ _ hx12)
    have hp14 := s14 _ _ (s13 _ _ hp12)
    refine ⟨_, rfl, _, _, _, _, _, rfl, hx14, hp14, cx, T.n_Fault_name, rfl, _, rfl, c, 6, rfl, by decide, by decide, fun H15 s15 => ⟨_, rfl, fun H16 s16 => ⟨rfl, _, rfl, iteFb (by simp) ?_⟩⟩⟩
    have hx16 := s16 _ _ (s15 _ _ hx14)
    have hp16 := s16 _ _ (s15 _ _ hp14)
    refine ⟨_, rfl, x, 12, _, rfl, by decide, ⟨some p, hx16, Or.inr ⟨p, rfl, hp16⟩⟩, fun H17 pf s17 hpf => ?_⟩
    have S17 : Same H H17 := (S9.trans S912).trans (s13.trans (s14.trans (s15.trans (s16.trans s17))))
    have ef : flagsL 12 = (List.replicate (12 : Int).toNat [V.bl false]).flatten ++ [V.bl true] := by decide
    refine ⟨_, rfl, s1', fun q1 hq1 => ⟨_, _, _, rfl, rfl, upd_same, by decide, by decide, by decide, fun q2 hq2 => ⟨s1', fun q3 hq3 => ⟨_, _, _, _, rfl, rfl, put2 hq3, upd_same, by decide, fun q4 hq4 => ?_⟩⟩⟩⟩
    have Sq := (((Same.new (o := HO.lst [V.bl false]) hq1).put hq2).put hq3).put (o := HO.lst ((List.replicate (12 : Int).toNat [V.bl false]).flatten ++ [V.bl true])) hq4
    refine ⟨_, _, rfl, rfl, ⟨0, flagsL 12, flagsL 12, by decide, rfl, Or.inr ⟨SqL.of (Sq _ _ hpf), SqL.of (by rw [ef]; exact upd_same)⟩, fun i a b ea eb => ?_⟩, _, rfl, iteTb rfl ?_⟩
    · rw [ea] at eb; cases eb
      obtain ⟨j, _, rfl⟩ := List.mem_map.mp (List.mem_of_getElem? ea)
      exact .bl _
    have hx18 := Sq _ _ (s17 _ _ hx16)
    have hp18 := Sq _ _ (s17 _ _ hp16)
    refine ⟨_, rfl, _, _, _, _, _, _, rfl, rfl, hx18, fun p' e => by cases e; exact ⟨_, hp18⟩, cx, T.fam.k 12 13 (by decide) (by decide), _, rfl, iteTb (by decide) ?_⟩
    exact ⟨_, rfl, _, _, _, _, _, _, rfl, rfl, hx18, fun p' e => by cases e; exact ⟨_, hp18⟩, cx, T.fam.v 12 (by decide), q _ ((((S17.put hq1).put hq2).put hq3).put hq4)⟩

theorem logB {n : Int} (h0 : 0 ≤ n) (h1 : n ≤ 10 ^ 30 + 1) : n.natAbs.log2 < 1920 := by
  by_cases e : n.natAbs = 0
  · rw [e]; decide
  · exact (Nat.log2_lt e).mpr (Nat.lt_of_le_of_lt (show n.natAbs ≤ 10 ^ 30 + 1 by omega) (by decide +kernel))
theorem number_bd (c : Int) {far : Int} (h : 0 < far) : 0 ≤ number c far ∧ number c far < far := by
  unfold number
  split
  · exact ⟨Int.emod_nonneg _ (by omega), Int.emod_lt_of_pos _ h⟩
  · exact ⟨Int.emod_nonneg _ (by omega), Int.emod_lt_of_pos _ h⟩
theorem at_bound (c : Int) : ∃ n : Int, atI [V.int (pick c 1 13), V.int (number c ((10 : Int) ^ (30 : Int).toNat))] (pick c 2 2) = some (V.int n) ∧ 0 ≤ n ∧ n ≤ 10 ^ 30 := by
  have a1 := pick_ge c 2 (m := 2) (by decide)
  have a2 := pick_lt c 2 (m := 2) (by decide)
  have b1 := pick_ge c 1 (m := 13) (by decide)
  have b2 := pick_lt c 1 (m := 13) (by decide)
  have d := number_bd c (far := (10 : Int) ^ (30 : Int).toNat) (by decide)
  have e30 : (10 : Int) ^ (30 : Int).toNat = 10 ^ 30 := rfl
  have hc : pick c 2 2 = 0 ∨ pick c 2 2 = 1 := by omega
  rcases hc with e | e <;> rw [e]
  · exact ⟨_, rfl, b1, by omega⟩
  · refine ⟨_, rfl, d.1, ?_⟩
    rw [e30] at d ⊢
    exact Int.le_of_lt d.2
theorem slice_le (z : Str) (k : Int) : (Txt.slice z none (some k)).length ≤ z.length := Txt.slice_le z _ _
theorem ok_law {C : Nat → Addr} (T : Tx K mg C) {f : Addr} {fd : FuncData} (F : Fun K "law" "law" s_law f fd) : FnOk P w K mg base CX0 5 f fd psLaw (spLaw K) := by
  obtain ⟨f_law_cell, fd_law_cell, A_law_cell⟩ := T.a_law_cell
  have G_law_cell : FnOk P w K mg base CX0 1 f_law_cell fd_law_cell psCell (spCell K) := ok_cell A_law_cell.F T.len
  obtain ⟨f_law_pick, fd_law_pick, A_law_pick⟩ := T.a_law_pick
  have G_law_pick : FnOk P w K mg base CX0 1 f_law_pick fd_law_pick psPick spPick := ok_pick A_law_pick.F
  obtain ⟨f_law_name, fd_law_name, A_law_name⟩ := T.a_law_name
  have G_law_name : FnOk P w K mg base CX0 2 f_law_name fd_law_name psName spName := ok_name A_law_name.F A_law_pick T.range
  obtain ⟨f_law_placed, fd_law_placed, A_law_placed⟩ := T.a_law_placed
  have G_law_placed : FnOk P w K mg base CX0 3 f_law_placed fd_law_placed psPlaced (spPlaced C) := ok_law_placed T A_law_placed.F
  obtain ⟨f_law_worded, fd_law_worded, A_law_worded⟩ := T.a_law_worded
  have G_law_worded : FnOk P w K mg base CX0 3 f_law_worded fd_law_worded psWorded (spWorded C) := ok_law_worded T A_law_worded.F
  obtain ⟨f_law_fault, fd_law_fault, A_law_fault⟩ := T.a_law_fault
  have G_law_fault : FnOk P w K mg base CX0 4 f_law_fault fd_law_fault psFault spFault := ok_law_fault T A_law_fault.F
  obtain ⟨f_law_number, fd_law_number, A_law_number⟩ := T.a_law_number
  have G_law_number : FnOk P w K mg base CX0 1 f_law_number fd_law_number psNumber spNumber := ok_number A_law_number.F
  obtain ⟨f_law_flags, fd_law_flags, A_law_flags⟩ := T.a_law_flags
  have G_law_flags : FnOk P w K mg base CX0 1 f_law_flags fd_law_flags psFlags (spFlags C) := ok_law_flags T A_law_flags.F
  obtain ⟨f_law_keeps, fd_law_keeps, A_law_keeps⟩ := T.a_law_keeps
  have G_law_keeps : FnOk P w K mg base CX0 1 f_law_keeps fd_law_keeps psKeeps (spKeeps C) := ok_law_keeps T A_law_keeps.F
  obtain ⟨f_law_sub, fd_law_sub, A_law_sub⟩ := T.a_law_sub
  have G_law_sub : FnOk P w K mg base CX0 1 f_law_sub fd_law_sub psSub spSub := ok_sub A_law_sub.F
  refine F.ok scLaw (fun vs H Q E h => ?_) (fun cdv A outer s H vs Q E hr h => ?_)
  · obtain ⟨a, ns, rfl, _⟩ := h
    rfl
  · obtain ⟨a, ns, rfl, hS, hlen, q⟩ := h
    have hr1 : Room 1 _ := hr.mono (by decide)
    have hr2 : Room 2 _ := hr.mono (by decide)
    have hr3 : Room 3 _ := hr.mono (by decide)
    have hr4 : Room 4 _ := hr
    have nl : ∀ k, (name k).length ≤ 100 := fun k => by rw [name_length]; have := nameLen_le k; omega
    refine ⟨_, QSs.h (qss_cons (qs_for PassesOwn.never rfl (pi_range1 (by rfl) T.range (pa_cons (pe_callB (call_max2 rfl) (by rfl) T.max PyProof.Rows.boot_max (pa_cons pe_int (pa_cons (pe_callB (call_min2 rfl) (by rfl) T.min PyProof.Rows.boot_min (pa_cons (pe_callB call_len_seq (by rfl) T.len PySem.boot_len (pa_cons (pv 0) pa_nil)) (pa_cons pe_int pa_nil))) pa_nil))) pa_nil)) (pg_name (i := 1) scLaw.nd rfl (Or.inl rfl))
      (qss_cons (qs_set (i := 2) scLaw.nd rfl (Or.inl rfl) (pcall A_law_cell G_law_cell hr1 (pa_cons (pv 0) (pa_cons (pv 1) pa_nil))))
      (qss_cons (qs_set (i := 3) scLaw.nd rfl (Or.inr rfl) (pcall A_law_pick G_law_pick hr1 (pa_cons (pv 2) (pa_cons pe_int (pa_cons pe_int pa_nil)))))
      (qss_cons (qs_set (i := 4) scLaw.nd rfl (Or.inl rfl) (pe_ix ix_list (pe_lst (pa_cons (pcall A_law_pick G_law_pick hr1 (pa_cons (pv 2) (pa_cons pe_int (pa_cons pe_int pa_nil)))) (pa_cons (pcall A_law_number G_law_number hr1 (pa_cons (pv 2) (pa_cons (pe_op op_pow pe_int pe_int) pa_nil))) pa_nil))) (pcall A_law_pick G_law_pick hr1 (pa_cons (pv 2) (pa_cons pe_int (pa_cons pe_int pa_nil)))) (fun _ _ => rfl)))
      (qss_cons (qs_set (i := 5) scLaw.nd rfl (Or.inl rfl) (pe_slice sl_str (pcall A_law_name G_law_name hr2 (pa_cons (pv 2) pa_nil)) po_none (po_some pe_int)))
      (qss_cons (qs_if (pt_cmpR op_lt (pv 3) pe_int (nomark _)) (qss_cons (qs_set (i := 6) scLaw.nd rfl (Or.inl rfl) (pcall A_law_placed G_law_placed hr3 (pa_cons (pv 3) (pa_cons (pv 4) pa_nil))))
      (qss_one (qs_set (i := 7) scLaw.nd rfl (Or.inl rfl) (pcall A_law_placed G_law_placed hr3 (pa_cons (pv 3) (pa_cons (pe_op op_add (pv 4) pe_int) pa_nil)))))) (qss_cons (qs_set (i := 6) scLaw.nd rfl (Or.inl rfl) (pcall A_law_worded G_law_worded hr3 (pa_cons (pv 3) (pa_cons (pv 5) pa_nil))))
      (qss_one (qs_set (i := 7) scLaw.nd rfl (Or.inl rfl) (pcall A_law_worded G_law_worded hr3 (pa_cons (pv 3) (pa_cons (pe_op op_add_str (pv 5) pe_str) pa_nil)))))))
      (qss_cons (qs_comp (N := ["_law_k", "_law_way"]) [none, some 3] (i := 8) scLaw.nd rfl (Or.inl rfl) rfl (by kernel_rfl) (pi_range1 (by rfl) T.range (pa_cons pe_int pa_nil)) (fun cl C fp s H => (pg_name (i := 0) (by decide +kernel : (["_law_k", "_law_way"] : List Str).Nodup) rfl (Or.inl rfl))) (fun cl C fp s H => pf_nil) (fun cl C fp s H => (pe_cmpR op_eq (pv 0) (pv 1) (nomark _))))
      (qss_cons (qs_if (pt_cmpR op_eq (pv 3) pe_int (nomark _)) (qss_one (qs_set (i := 8) scLaw.nd rfl (Or.inl rfl) (pe_op op_rep (pe_lst (pa_cons pe_bl pa_nil)) pe_int))) qss_nil)
      (qss_cons (qs_if (PW.pt (pw_or (pt_cmpR (op_neD (K := K) rfl hr.units) (pcall A_law_flags G_law_flags hr1 (pa_cons (pv 6) pa_nil)) (pv 8) (nomark _)) (pw_or (pt_not (pt_val (pe_callB call_instX (by rfl) T.inst PyProof.Rows.boot_isinstance (pa_cons (pv 6) (pa_cons (pgl_ref T.c_HouseError) pa_nil))))) (pw_or1 (pt_not (pt_val (pe_callB call_instX (by rfl) T.inst PyProof.Rows.boot_isinstance (pa_cons (pv 6) (pa_cons (pe_bltn (v := .ty "ValueError") (by rfl) T.t_ValueError boot_ValueError rfl) pa_nil))))))))) (qss_one (qs_ret pe_bl)) qss_nil)
      (qss_cons (qs_if (PW.pt (pw_or (pt_not (pt_val (pcall A_law_keeps G_law_keeps hr1 (pa_cons (pv 6) (pa_cons (pv 3) (pa_cons (pv 4) (pa_cons (pv 5) pa_nil))))))) (pw_or1 (pt_not (pt_val (pcall A_law_keeps G_law_keeps hr1 (pa_cons (pv 7) (pa_cons (pv 3) (pa_cons (pe_op op_add (pv 4) pe_int) (pa_cons (pe_op op_add_str (pv 5) pe_str) pa_nil)))))))))) (qss_one (qs_ret pe_bl)) qss_nil)
      (qss_one (qs_if (pt_not (pt_val (pcall A_law_fault G_law_fault hr4 (pa_cons (pcall A_law_sub G_law_sub hr1 (pa_cons (pv 2) (pa_cons pe_int pa_nil))) pa_nil)))) (qss_one (qs_ret pe_bl)) qss_nil))))))))))))
      (qss_one (qs_ret pe_bl))), ?_⟩
    have s1' : 1 ≤ sizeLine := by decide
    have s2' : 2 ≤ sizeLine := by decide
    have s13' : 1 * 13 ≤ sizeLine := by decide
    refine ⟨_, rfl, a, _, rfl, .inl hS, _, _, rfl, _, _, rfl, _, rfl, ?_, ?_, ?_⟩
    · split <;> split <;> omega
    · rw [List.length_map]; split <;> split <;> omega
    refine for_range (fun i σ H2 => ∃ v1 v2 v3 v4 v5 v6 v7 v8, σ = [some (.ref a), v1, v2, v3, v4, v5, v6, v7, v8] ∧ Same H H2) ⟨none, none, none, none, none, none, none, none, rfl, Same.refl _⟩ ?_ ?_
    · rintro i σ H2 hi ⟨v1, v2, v3, v4, v5, v6, v7, v8, rfl, sm⟩
      refine ⟨_, rfl, _, rfl, a, ns, 0 + (i : Int), rfl, sm.seq hS, by omega, fun H3 s3 => ?_⟩
      generalize cell ns (0 + (i : Int)) = c
      have w1 := pick_ge c 0 (m := 13) (by decide)
      have w2 := pick_lt c 0 (m := 13) (by decide)
      obtain ⟨m, hm⟩ : ∃ m : Nat, pick c 0 13 = (m : Int) := ⟨(pick c 0 13).toNat, by omega⟩
      have hm12 : m ≤ 12 := by omega
      obtain ⟨n, hat, hn0, hn1⟩ := at_bound c
      refine ⟨_, rfl, c, 0, 13, rfl, by decide, by decide, by decide, fun H4 s4 => ?_⟩
      generalize pick c 0 13 = wy at hm
      subst hm
      refine ⟨_, rfl, c, 1, 13, rfl, by decide, by decide, by decide, fun H5 s5 => ⟨_, rfl, _, _, rfl, rfl, ⟨by decide, by decide, by decide⟩, c, _, rfl, by decide, fun H6 s6 => ⟨s2', fun pl hpl => ⟨_, rfl, c, 2, 2, rfl, by decide, by decide, by decide, fun H7 s7 => ⟨_, _, _, _, rfl, rfl, SqL.of (s7 _ _ upd_same), hat, ?_⟩⟩⟩⟩⟩
      refine ⟨_, rfl, c, rfl, fun H8 s8 => ⟨_, rfl, _, rfl, Nat.le_trans (nl c) (by decide), ?_⟩⟩
      have hzl := slice_le (name c) 7
      generalize Txt.slice (name c) none (some 7) = z at hzl
      have nl' := nl c
      have la : (("a" : Str)).length = 1 := by decide +kernel
      have hz : z.length ≤ 1000 := by omega
      have hza' : (z ++ "a").length ≤ 1000 := by rw [appLen, la]; omega
      have hza : z.length + (("a" : Str)).length ≤ sizeLine := Nat.le_trans (show _ ≤ 1000 by rw [la]; omega) line_big
      have S8 : Same H H8 := sm.trans (s3.trans (s4.trans (s5.trans (s6.trans (((Same.new hpl).trans s7).trans s8)))))
      by_cases h6 : m ≤ 6
      · have cwm : cW m = m := by unfold cW; rw [if_neg (by omega)]
        refine ⟨_, rfl, _, _, rfl, rfl, _, rfl, iteTb (decide_eq_true (by omega)) ?_⟩
        refine ⟨_, rfl, _, rfl, m, n, rfl, h6, logB hn0 (by omega), fun H9 a1 s9 x1 => ?_⟩
        refine ⟨_, rfl, _, rfl, _, _, rfl, rfl, m, n + 1, rfl, h6, logB (by omega) (by omega), fun H10 a2 s10 x2 => ?_⟩
        have x1' := x1.same s10
        refine ⟨_, rfl, by decide, by decide, ?_⟩
        refine comp_rangeP (fun i v H' => v = V.bl (decide (m = i))) (fun i v H' H'' h s => h) (by decide) (fun i H' Q' hi sm k' => ?_) (fun ys H18 s18 hl hy d hd0 => ?_)
        · refine ⟨_, rfl, _, rfl, rfl, k' _ _ (Same.refl _) ?_⟩
          rw [V.bl.injEq, decide_eq_decide]
          constructor
          · intro e; have := V.int.inj e; omega
          · intro e; subst e; congr 1; omega
        have hys : ys = flagsL m := by
          apply List.ext_getElem?
          intro i
          by_cases hi : i < 13
          · have h1 : i < ys.length := by rw [hl]; exact hi
            rw [List.getElem?_eq_getElem h1, hy i _ (List.getElem?_eq_getElem h1)]
            unfold flagsL
            rw [List.getElem?_map, List.getElem?_range hi]; rfl
          · rw [List.getElem?_eq_none (by rw [hl]; exact Nat.le_of_not_lt hi), List.getElem?_eq_none (by unfold flagsL; rw [List.length_map, List.length_range]; omega)]
        subst hys
        have hd1 := (show upd H18 d (.lst (flagsL m)) d = some (.lst (flagsL m)) from upd_same)
        have SX := ((S8.trans (s9.trans s10)).trans s18).put (o := HO.lst (flagsL m)) hd0
        have k1 : m ≤ 6 → IsX C (upd H18 d (.lst (flagsL m))) a1 m [("at", V.int n)] := fun _ => (x1'.same s18).same (Same.new hd0)
        have o1 : m ≤ 6 → IsX C (upd H18 d (.lst (flagsL m))) a2 m [("at", V.int (n + 1))] := fun _ => (x2.same s18).same (Same.new hd0)
        have k2 : 7 ≤ m → IsX C (upd H18 d (.lst (flagsL m))) a1 (cW m) (fsW m z) := fun h => by omega
        have o2 : 7 ≤ m → IsX C (upd H18 d (.lst (flagsL m))) a2 (cW m) (fsW m (z ++ "a")) := fun h => by omega
        generalize upd H18 d (.lst (flagsL m)) = H19 at hd1 SX k1 o1 k2 o2
        have hdu : H19 d = some (.lst (flagsL (cW m))) := by rw [cwm]; exact hd1
        have xe : IsX C H19 a1 (cW m) [("at", V.int n)] := by rw [cwm]; exact k1 h6
        refine ⟨_, rfl, rfl, _, rfl, iteFb (decide_eq_false fun e => by have := V.int.inj e; omega) ?_⟩
        have cw : cW m ≤ 13 := by unfold cW; split <;> omega
        obtain ⟨dx, ee, ed⟩ := xe.dict
        refine ⟨_, rfl, a1, cW m, _, rfl, cw, xe, fun H20 pf s20 hpf => ⟨_, rfl, _, _, rfl, rfl, ⟨0, flagsL (cW m), flagsL (cW m), by decide, rfl, Or.inr ⟨SqL.of hpf, SqL.of (s20 _ _ hdu)⟩, fun i a b ea eb => ?_⟩, _, rfl, iteFb rfl ?_⟩⟩
        · rw [ea] at eb; cases eb
          obtain ⟨j, _, rfl⟩ := List.mem_map.mp (List.mem_of_getElem? ea)
          exact .bl _
        obtain ⟨dx, ee, ed⟩ := (xe.same s20).dict
        refine ⟨_, rfl, _, _, _, _, _, _, rfl, rfl, ee, ed, T.fam.x _ cw, T.fam.k (cW m) 13 cw (by decide), _, rfl, iteFb (by simp) ?_⟩
        refine ⟨_, rfl, _, _, _, _, _, _, rfl, rfl, ee, ed, T.fam.x _ cw, T.fam.v (cW m) cw, _, rfl, iteFb rfl ?_⟩
        refine ⟨_, rfl, _, rfl, _, rfl, _, rfl, a1, m, n, z, rfl, hm12, hz, fun h => (k1 h).same s20, fun h => (k2 h).same s20, fun H21 s21 => ⟨_, rfl, iteFb rfl ?_⟩⟩
        refine ⟨_, rfl, _, rfl, _, rfl, _, _, rfl, rfl, _, rfl, _, _, rfl, rfl, hza, a2, m, n + 1, z ++ "a", rfl, hm12, hza', fun h => (o1 h).same (s20.trans s21), fun h => (o2 h).same (s20.trans s21), fun H22 s22 => ⟨_, rfl, iteFb rfl ?_⟩⟩
        refine ⟨_, rfl, c, 7, rfl, by decide, by decide, fun H23 s23 => ⟨_, rfl, fun H24 s24 => ⟨_, rfl, iteFb rfl ?_⟩⟩⟩
        exact ⟨_, _, _, _, _, _, _, _, rfl, SX.trans (s20.trans (s21.trans (s22.trans (s23.trans s24))))⟩
      · refine ⟨_, rfl, _, _, rfl, rfl, _, rfl, iteFb (decide_eq_false (by omega)) ?_⟩
        refine ⟨_, rfl, _, rfl, m, z, rfl, by omega, hm12, hz, fun H9 a1 s9 x1 => ?_⟩
        refine ⟨_, rfl, _, rfl, _, _, rfl, rfl, hza, m, z ++ "a", rfl, by omega, hm12, hza', fun H10 a2 s10 x2 => ?_⟩
        have x1' := x1.same s10
        refine ⟨_, rfl, by decide, by decide, ?_⟩
        refine comp_rangeP (fun i v H' => v = V.bl (decide (m = i))) (fun i v H' H'' h s => h) (by decide) (fun i H' Q' hi sm k' => ?_) (fun ys H18 s18 hl hy d hd0 => ?_)
        · refine ⟨_, rfl, _, rfl, rfl, k' _ _ (Same.refl _) ?_⟩
          rw [V.bl.injEq, decide_eq_decide]
          constructor
          · intro e; have := V.int.inj e; omega
          · intro e; subst e; congr 1; omega
        have hys : ys = flagsL m := by
          apply List.ext_getElem?
          intro i
          by_cases hi : i < 13
          · have h1 : i < ys.length := by rw [hl]; exact hi
            rw [List.getElem?_eq_getElem h1, hy i _ (List.getElem?_eq_getElem h1)]
            unfold flagsL
            rw [List.getElem?_map, List.getElem?_range hi]; rfl
          · rw [List.getElem?_eq_none (by rw [hl]; exact Nat.le_of_not_lt hi), List.getElem?_eq_none (by unfold flagsL; rw [List.length_map, List.length_range]; omega)]
        subst hys
        have hd1 := (show upd H18 d (.lst (flagsL m)) d = some (.lst (flagsL m)) from upd_same)
        have SX := ((S8.trans (s9.trans s10)).trans s18).put (o := HO.lst (flagsL m)) hd0
        have k2 : 7 ≤ m → IsX C (upd H18 d (.lst (flagsL m))) a1 (cW m) (fsW m z) := fun _ => (x1'.same s18).same (Same.new hd0)
        have o2 : 7 ≤ m → IsX C (upd H18 d (.lst (flagsL m))) a2 (cW m) (fsW m (z ++ "a")) := fun _ => (x2.same s18).same (Same.new hd0)
        have k1 : m ≤ 6 → IsX C (upd H18 d (.lst (flagsL m))) a1 m [("at", V.int n)] := fun h => by omega
        have o1 : m ≤ 6 → IsX C (upd H18 d (.lst (flagsL m))) a2 m [("at", V.int (n + 1))] := fun h => by omega
        generalize upd H18 d (.lst (flagsL m)) = H19 at hd1 SX k1 o1 k2 o2
        by_cases h12 : m = 12
        · subst h12
          refine ⟨_, rfl, rfl, _, rfl, iteTb (by decide) ?_⟩
          refine ⟨s1', fun q1 hq1 => ⟨_, _, _, rfl, rfl, upd_same, by decide, by decide, s13', fun q2 hq2 => ?_⟩⟩
          have SY := (Same.new (o := HO.lst [V.bl false]) hq1).put (o := HO.lst (List.replicate (13 : Int).toNat [V.bl false]).flatten) hq2
          have hdu := (show upd (upd H19 q1 (.lst [V.bl false])) q2 (.lst (List.replicate (13 : Int).toNat [V.bl false]).flatten) q2 = some (.lst (flagsL (cW 12))) by rw [upd_same]; exact congrArg (fun l => some (HO.lst l)) (by decide))
          replace SX := SX.trans SY
          replace k1 := fun h => (k1 h).same SY
          replace k2 := fun h => (k2 h).same SY
          replace o1 := fun h => (o1 h).same SY
          replace o2 := fun h => (o2 h).same SY
          have xe := k2 (by decide)
          generalize upd (upd H19 q1 (.lst [V.bl false])) q2 (.lst (List.replicate (13 : Int).toNat [V.bl false]).flatten) = H19b at SX k1 k2 o1 o2 xe hdu
          have cw : cW 12 ≤ 13 := by unfold cW; split <;> omega
          obtain ⟨dx, ee, ed⟩ := xe.dict
          refine ⟨_, rfl, a1, cW 12, _, rfl, cw, xe, fun H20 pf s20 hpf => ⟨_, rfl, _, _, rfl, rfl, ⟨0, flagsL (cW 12), flagsL (cW 12), by decide, rfl, Or.inr ⟨SqL.of hpf, SqL.of (s20 _ _ hdu)⟩, fun i a b ea eb => ?_⟩, _, rfl, iteFb rfl ?_⟩⟩
          · rw [ea] at eb; cases eb
            obtain ⟨j, _, rfl⟩ := List.mem_map.mp (List.mem_of_getElem? ea)
            exact .bl _
          obtain ⟨dx, ee, ed⟩ := (xe.same s20).dict
          refine ⟨_, rfl, _, _, _, _, _, _, rfl, rfl, ee, ed, T.fam.x _ cw, T.fam.k (cW 12) 13 cw (by decide), _, rfl, iteFb (by simp) ?_⟩
          refine ⟨_, rfl, _, _, _, _, _, _, rfl, rfl, ee, ed, T.fam.x _ cw, T.fam.v (cW 12) cw, _, rfl, iteFb rfl ?_⟩
          refine ⟨_, rfl, _, rfl, _, rfl, _, rfl, a1, 12, n, z, rfl, hm12, hz, fun h => (k1 h).same s20, fun h => (k2 h).same s20, fun H21 s21 => ⟨_, rfl, iteFb rfl ?_⟩⟩
          refine ⟨_, rfl, _, rfl, _, rfl, _, _, rfl, rfl, _, rfl, _, _, rfl, rfl, hza, a2, 12, n + 1, z ++ "a", rfl, hm12, hza', fun h => (o1 h).same (s20.trans s21), fun h => (o2 h).same (s20.trans s21), fun H22 s22 => ⟨_, rfl, iteFb rfl ?_⟩⟩
          refine ⟨_, rfl, c, 7, rfl, by decide, by decide, fun H23 s23 => ⟨_, rfl, fun H24 s24 => ⟨_, rfl, iteFb rfl ?_⟩⟩⟩
          exact ⟨_, _, _, _, _, _, _, _, rfl, SX.trans (s20.trans (s21.trans (s22.trans (s23.trans s24))))⟩
        · have cwm : cW m = m := by unfold cW; rw [if_neg h12]
          have hdu : H19 d = some (.lst (flagsL (cW m))) := by rw [cwm]; exact hd1
          have xe := k2 (by omega)
          refine ⟨_, rfl, rfl, _, rfl, iteFb (decide_eq_false fun e => by have := V.int.inj e; omega) ?_⟩
          have cw : cW m ≤ 13 := by unfold cW; split <;> omega
          obtain ⟨dx, ee, ed⟩ := xe.dict
          refine ⟨_, rfl, a1, cW m, _, rfl, cw, xe, fun H20 pf s20 hpf => ⟨_, rfl, _, _, rfl, rfl, ⟨0, flagsL (cW m), flagsL (cW m), by decide, rfl, Or.inr ⟨SqL.of hpf, SqL.of (s20 _ _ hdu)⟩, fun i a b ea eb => ?_⟩, _, rfl, iteFb rfl ?_⟩⟩
          · rw [ea] at eb; cases eb
            obtain ⟨j, _, rfl⟩ := List.mem_map.mp (List.mem_of_getElem? ea)
            exact .bl _
          obtain ⟨dx, ee, ed⟩ := (xe.same s20).dict
          refine ⟨_, rfl, _, _, _, _, _, _, rfl, rfl, ee, ed, T.fam.x _ cw, T.fam.k (cW m) 13 cw (by decide), _, rfl, iteFb (by simp) ?_⟩
          refine ⟨_, rfl, _, _, _, _, _, _, rfl, rfl, ee, ed, T.fam.x _ cw, T.fam.v (cW m) cw, _, rfl, iteFb rfl ?_⟩
          refine ⟨_, rfl, _, rfl, _, rfl, _, rfl, a1, m, n, z, rfl, hm12, hz, fun h => (k1 h).same s20, fun h => (k2 h).same s20, fun H21 s21 => ⟨_, rfl, iteFb rfl ?_⟩⟩
          refine ⟨_, rfl, _, rfl, _, rfl, _, _, rfl, rfl, _, rfl, _, _, rfl, rfl, hza, a2, m, n + 1, z ++ "a", rfl, hm12, hza', fun h => (o1 h).same (s20.trans s21), fun h => (o2 h).same (s20.trans s21), fun H22 s22 => ⟨_, rfl, iteFb rfl ?_⟩⟩
          refine ⟨_, rfl, c, 7, rfl, by decide, by decide, fun H23 s23 => ⟨_, rfl, fun H24 s24 => ⟨_, rfl, iteFb rfl ?_⟩⟩⟩
          exact ⟨_, _, _, _, _, _, _, _, rfl, SX.trans (s20.trans (s21.trans (s22.trans (s23.trans s24))))⟩
    · rintro σ H2 ⟨v1, v2, v3, v4, v5, v6, v7, v8, rfl, sm⟩
      exact q H2

end
theorem all_mk {l : PySem.W.OpenLaw} {w : World} {K : PySem.W.Frag} {h : Heap} {mg : Str → Option Value} {fa f0 f1 f2 f3 f4 f5 f6 f7 f8 f9 f10 fi0 fi1 fi2 fi3 fi4 fi5 fi6 fi7 fi8 fi9 fi10 C0 C1 C2 C3 C4 C5 C6 C7 C8 C9 C10 C11 C12 C13 N0 N1 N2 N3 N4 N5 N6 N7 N8 N9 N10 N11 N12 N13 : Addr} (X : K.In h) (G : h.Ns mainGlobals mg) (hfa : mg "law" = some (.ref fa))
    {od0 an0 od1 an1 od2 an2 od3 an3 od4 an4 od5 an5 od6 an6 od7 an7 od8 an8 od9 an9 od10 an10 odi0 ani0 odi1 ani1 odi2 ani2 odi3 ani3 odi4 ani4 odi5 ani5 odi6 ani6 odi7 ani7 odi8 ani8 odi9 ani9 odi10 ani10 : Option Addr} {sl0 sl1 sl2 sl3 sl4 sl5 sl6 sl7 sl8 sl9 sl10 sli0 sli1 sli2 sli3 sli4 sli5 sli6 sli7 sli8 sli9 sli10 : Array (Option Value)} {oc0 kV0 dc0 pm0 cd0 ct0 oc1 kV1 dc1 pm1 cd1 ct1 oc2 kV2 dc2 pm2 cd2 ct2 oc3 kV3 dc3 pm3 cd3 ct3 oc4 kV4 dc4 pm4 cd4 ct4 oc5 kV5 dc5 pm5 cd5 ct5 oc6 kV6 dc6 pm6 cd6 ct6 oc7 kV7 dc7 pm7 cd7 ct7 oc8 kV8 dc8 pm8 cd8 ct8 oc9 kV9 dc9 pm9 cd9 ct9 oc10 kV10 dc10 pm10 cd10 ct10 oci0 kVi0 dci0 pmi0 cdi0 cti0 oci1 kVi1 dci1 pmi1 cdi1 cti1 oci2 kVi2 dci2 pmi2 cdi2 cti2 oci3 kVi3 dci3 pmi3 cdi3 cti3 oci4 kVi4 dci4 pmi4 cdi4 cti4 oci5 kVi5 dci5 pmi5 cdi5 cti5 oci6 kVi6 dci6 pmi6 cdi6 cti6 oci7 kVi7 dci7 pmi7 cdi7 cti7 oci8 kVi8 dci8 pmi8 cdi8 cti8 oci9 kVi9 dci9 pmi9 cdi9 cti9 oci10 kVi10 dci10 pmi10 cdi10 cti10 : Value}
    {nm0 qn0 nm1 qn1 nm2 qn2 nm3 qn3 nm4 qn4 nm5 qn5 nm6 qn6 nm7 qn7 nm8 qn8 nm9 qn9 nm10 qn10 nm11 qn11 nm12 qn12 nm13 qn13 : Str} {bs0 sub0 bs1 sub1 bs2 sub2 bs3 sub3 bs4 sub4 bs5 sub5 bs6 sub6 bs7 sub7 bs8 sub8 bs9 sub9 bs10 sub10 bs11 sub11 bs12 sub12 bs13 sub13 : List Value} {sn0 sn1 sn2 sn3 sn4 sn5 sn6 sn7 sn8 sn9 sn10 sn11 sn12 sn13 : List Str} {ab0 ab1 ab2 ab3 ab4 ab5 ab6 ab7 ab8 ab9 ab10 ab11 ab12 ab13 : Bool} {col0 col1 col2 col3 col4 col5 col6 col7 col8 col9 col10 col11 col12 col13 : Option Bool} {dd0 dd1 dd2 dd3 dd4 dd5 dd6 dd7 dd8 dd9 dd10 dd11 dd12 dd13 : Option Addr} {x00 x10 x20 x30 x50 x01 x11 x21 x31 x51 x02 x12 x22 x32 x52 x03 x13 x23 x33 x53 x04 x14 x24 x34 x54 x05 x15 x25 x35 x55 x06 x16 x26 x36 x56 x07 x17 x27 x37 x57 x08 x18 x28 x38 x58 x09 x19 x29 x39 x59 x010 x110 x210 x310 x510 x011 x111 x211 x311 x511 x012 x112 x212 x312 x512 x013 x113 x213 x313 x513 : Option Value} {oN : Value} {dN : Option Addr} {esN : Array DictEntry} {nN : Nat} {slN : Array (Option Value)}
    (a0 : PySem.W.nsIn K mainGlobals "_law_cell" = some (some (.ref f0)))
    (l0 : K.lookup f0 = some ⟨oc0, od0, .func (PySem.W.fnOf "_law_cell" "_law_cell" (defArgs s_law_cell) (defBody s_law_cell) (defScope s_law_cell) .none kV0 dc0 pm0 an0 cd0 ct0), sl0⟩)
    (c0 : PySem.W.codeIn K cd0 "_law_cell" = true)
    (k0 : PySem.W.keepIn K (.ref f0) = true)
    (a1 : PySem.W.nsIn K mainGlobals "_law_sub" = some (some (.ref f1)))
    (l1 : K.lookup f1 = some ⟨oc1, od1, .func (PySem.W.fnOf "_law_sub" "_law_sub" (defArgs s_law_sub) (defBody s_law_sub) (defScope s_law_sub) .none kV1 dc1 pm1 an1 cd1 ct1), sl1⟩)
    (c1 : PySem.W.codeIn K cd1 "_law_sub" = true)
    (k1 : PySem.W.keepIn K (.ref f1) = true)
    (a2 : PySem.W.nsIn K mainGlobals "_law_number" = some (some (.ref f2)))
    (l2 : K.lookup f2 = some ⟨oc2, od2, .func (PySem.W.fnOf "_law_number" "_law_number" (defArgs s_law_number) (defBody s_law_number) (defScope s_law_number) .none kV2 dc2 pm2 an2 cd2 ct2), sl2⟩)
    (c2 : PySem.W.codeIn K cd2 "_law_number" = true)
    (k2 : PySem.W.keepIn K (.ref f2) = true)
    (a3 : PySem.W.nsIn K mainGlobals "_law_pick" = some (some (.ref f3)))
    (l3 : K.lookup f3 = some ⟨oc3, od3, .func (PySem.W.fnOf "_law_pick" "_law_pick" (defArgs s_law_pick) (defBody s_law_pick) (defScope s_law_pick) .none kV3 dc3 pm3 an3 cd3 ct3), sl3⟩)
    (c3 : PySem.W.codeIn K cd3 "_law_pick" = true)
    (k3 : PySem.W.keepIn K (.ref f3) = true)
    (a4 : PySem.W.nsIn K mainGlobals "_law_name" = some (some (.ref f4)))
    (l4 : K.lookup f4 = some ⟨oc4, od4, .func (PySem.W.fnOf "_law_name" "_law_name" (defArgs s_law_name) (defBody s_law_name) (defScope s_law_name) .none kV4 dc4 pm4 an4 cd4 ct4), sl4⟩)
    (c4 : PySem.W.codeIn K cd4 "_law_name" = true)
    (k4 : PySem.W.keepIn K (.ref f4) = true)
    (a5 : PySem.W.nsIn K mainGlobals "_law_flags" = some (some (.ref f5)))
    (l5 : K.lookup f5 = some ⟨oc5, od5, .func (PySem.W.fnOf "_law_flags" "_law_flags" (defArgs s_law_flags) (defBody s_law_flags) (defScope s_law_flags) .none kV5 dc5 pm5 an5 cd5 ct5), sl5⟩)
    (c5 : PySem.W.codeIn K cd5 "_law_flags" = true)
    (k5 : PySem.W.keepIn K (.ref f5) = true)
    (a6 : PySem.W.nsIn K mainGlobals "_law_placed" = some (some (.ref f6)))
    (l6 : K.lookup f6 = some ⟨oc6, od6, .func (PySem.W.fnOf "_law_placed" "_law_placed" (defArgs s_law_placed) (defBody s_law_placed) (defScope s_law_placed) .none kV6 dc6 pm6 an6 cd6 ct6), sl6⟩)
    (c6 : PySem.W.codeIn K cd6 "_law_placed" = true)
    (k6 : PySem.W.keepIn K (.ref f6) = true)
    (a7 : PySem.W.nsIn K mainGlobals "_law_worded" = some (some (.ref f7)))
    (l7 : K.lookup f7 = some ⟨oc7, od7, .func (PySem.W.fnOf "_law_worded" "_law_worded" (defArgs s_law_worded) (defBody s_law_worded) (defScope s_law_worded) .none kV7 dc7 pm7 an7 cd7 ct7), sl7⟩)
    (c7 : PySem.W.codeIn K cd7 "_law_worded" = true)
    (k7 : PySem.W.keepIn K (.ref f7) = true)
    (a8 : PySem.W.nsIn K mainGlobals "_law_keeps" = some (some (.ref f8)))
    (l8 : K.lookup f8 = some ⟨oc8, od8, .func (PySem.W.fnOf "_law_keeps" "_law_keeps" (defArgs s_law_keeps) (defBody s_law_keeps) (defScope s_law_keeps) .none kV8 dc8 pm8 an8 cd8 ct8), sl8⟩)
    (c8 : PySem.W.codeIn K cd8 "_law_keeps" = true)
    (k8 : PySem.W.keepIn K (.ref f8) = true)
    (a9 : PySem.W.nsIn K mainGlobals "_law_fault" = some (some (.ref f9)))
    (l9 : K.lookup f9 = some ⟨oc9, od9, .func (PySem.W.fnOf "_law_fault" "_law_fault" (defArgs s_law_fault) (defBody s_law_fault) (defScope s_law_fault) .none kV9 dc9 pm9 an9 cd9 ct9), sl9⟩)
    (c9 : PySem.W.codeIn K cd9 "_law_fault" = true)
    (k9 : PySem.W.keepIn K (.ref f9) = true)
    (a10 : PySem.W.nsIn K mainGlobals "law" = some (some (.ref f10)))
    (l10 : K.lookup f10 = some ⟨oc10, od10, .func (PySem.W.fnOf "law" "law" (defArgs s_law) (defBody s_law) (defScope s_law) .none kV10 dc10 pm10 an10 cd10 ct10), sl10⟩)
    (c10 : PySem.W.codeIn K cd10 "law" = true)
    (k10 : PySem.W.keepIn K (.ref f10) = true)
    (A0 : PySem.W.nsIn K mainGlobals "NoText" = some (some (.ref C0)))
    (A1 : PySem.W.nsIn K mainGlobals "TooMany" = some (some (.ref C1)))
    (A2 : PySem.W.nsIn K mainGlobals "Twice" = some (some (.ref C2)))
    (A3 : PySem.W.nsIn K mainGlobals "Double" = some (some (.ref C3)))
    (A4 : PySem.W.nsIn K mainGlobals "Orphan" = some (some (.ref C4)))
    (A5 : PySem.W.nsIn K mainGlobals "Clash" = some (some (.ref C5)))
    (A6 : PySem.W.nsIn K mainGlobals "NoRow" = some (some (.ref C6)))
    (A7 : PySem.W.nsIn K mainGlobals "NoPart" = some (some (.ref C7)))
    (A8 : PySem.W.nsIn K mainGlobals "NoDrop" = some (some (.ref C8)))
    (A9 : PySem.W.nsIn K mainGlobals "NoName" = some (some (.ref C9)))
    (A10 : PySem.W.nsIn K mainGlobals "NoExpr" = some (some (.ref C10)))
    (A11 : PySem.W.nsIn K mainGlobals "TooWide" = some (some (.ref C11)))
    (A12 : PySem.W.nsIn K mainGlobals "Fault" = some (some (.ref C12)))
    (A13 : PySem.W.nsIn K mainGlobals "HouseError" = some (some (.ref C13)))
    (B0 : K.lookup C0 = some (excClassObj nm0 qn0 C0 N0 bs0 (.ref C13 :: veMro) true sn0 sub0 ab0 col0 dd0 x00 x10 x20 x30 x50 "ValueError.__new__"))
    (E10 : PySem.W.findIn K (.ref C0) "__getattribute__" = some (some (.builtin "BaseException.__getattribute__")))
    (E20 : PySem.W.findIn K (.ref C0) "__getattr__" = some none)
    (E30 : PySem.W.findIn K (.ref C0) "__setattr__" = some (some (.builtin "object.__setattr__")))
    (E40 : PySem.W.findIn K (.ref C0) "__class__" = some (some (.builtin "object.__class__")))
    (P0 : PySem.W.keepIn K (.ref C0) = true)
    (B1 : K.lookup C1 = some (excClassObj nm1 qn1 C1 N1 bs1 (.ref C13 :: veMro) true sn1 sub1 ab1 col1 dd1 x01 x11 x21 x31 x51 "ValueError.__new__"))
    (E11 : PySem.W.findIn K (.ref C1) "__getattribute__" = some (some (.builtin "BaseException.__getattribute__")))
    (E21 : PySem.W.findIn K (.ref C1) "__getattr__" = some none)
    (E31 : PySem.W.findIn K (.ref C1) "__setattr__" = some (some (.builtin "object.__setattr__")))
    (E41 : PySem.W.findIn K (.ref C1) "__class__" = some (some (.builtin "object.__class__")))
    (P1 : PySem.W.keepIn K (.ref C1) = true)
    (B2 : K.lookup C2 = some (excClassObj nm2 qn2 C2 N2 bs2 (.ref C13 :: veMro) true sn2 sub2 ab2 col2 dd2 x02 x12 x22 x32 x52 "ValueError.__new__"))
    (E12 : PySem.W.findIn K (.ref C2) "__getattribute__" = some (some (.builtin "BaseException.__getattribute__")))
    (E22 : PySem.W.findIn K (.ref C2) "__getattr__" = some none)
    (E32 : PySem.W.findIn K (.ref C2) "__setattr__" = some (some (.builtin "object.__setattr__")))
    (E42 : PySem.W.findIn K (.ref C2) "__class__" = some (some (.builtin "object.__class__")))
    (P2 : PySem.W.keepIn K (.ref C2) = true)
    (B3 : K.lookup C3 = some (excClassObj nm3 qn3 C3 N3 bs3 (.ref C13 :: veMro) true sn3 sub3 ab3 col3 dd3 x03 x13 x23 x33 x53 "ValueError.__new__"))
    (E13 : PySem.W.findIn K (.ref C3) "__getattribute__" = some (some (.builtin "BaseException.__getattribute__")))
    (E23 : PySem.W.findIn K (.ref C3) "__getattr__" = some none)
    (E33 : PySem.W.findIn K (.ref C3) "__setattr__" = some (some (.builtin "object.__setattr__")))
    (E43 : PySem.W.findIn K (.ref C3) "__class__" = some (some (.builtin "object.__class__")))
    (P3 : PySem.W.keepIn K (.ref C3) = true)
    (B4 : K.lookup C4 = some (excClassObj nm4 qn4 C4 N4 bs4 (.ref C13 :: veMro) true sn4 sub4 ab4 col4 dd4 x04 x14 x24 x34 x54 "ValueError.__new__"))
    (E14 : PySem.W.findIn K (.ref C4) "__getattribute__" = some (some (.builtin "BaseException.__getattribute__")))
    (E24 : PySem.W.findIn K (.ref C4) "__getattr__" = some none)
    (E34 : PySem.W.findIn K (.ref C4) "__setattr__" = some (some (.builtin "object.__setattr__")))
    (E44 : PySem.W.findIn K (.ref C4) "__class__" = some (some (.builtin "object.__class__")))
    (P4 : PySem.W.keepIn K (.ref C4) = true)
    (B5 : K.lookup C5 = some (excClassObj nm5 qn5 C5 N5 bs5 (.ref C13 :: veMro) true sn5 sub5 ab5 col5 dd5 x05 x15 x25 x35 x55 "ValueError.__new__"))
    (E15 : PySem.W.findIn K (.ref C5) "__getattribute__" = some (some (.builtin "BaseException.__getattribute__")))
    (E25 : PySem.W.findIn K (.ref C5) "__getattr__" = some none)
    (E35 : PySem.W.findIn K (.ref C5) "__setattr__" = some (some (.builtin "object.__setattr__")))
    (E45 : PySem.W.findIn K (.ref C5) "__class__" = some (some (.builtin "object.__class__")))
    (P5 : PySem.W.keepIn K (.ref C5) = true)
    (B6 : K.lookup C6 = some (excClassObj nm6 qn6 C6 N6 bs6 (.ref C13 :: veMro) true sn6 sub6 ab6 col6 dd6 x06 x16 x26 x36 x56 "ValueError.__new__"))
    (E16 : PySem.W.findIn K (.ref C6) "__getattribute__" = some (some (.builtin "BaseException.__getattribute__")))
    (E26 : PySem.W.findIn K (.ref C6) "__getattr__" = some none)
    (E36 : PySem.W.findIn K (.ref C6) "__setattr__" = some (some (.builtin "object.__setattr__")))
    (E46 : PySem.W.findIn K (.ref C6) "__class__" = some (some (.builtin "object.__class__")))
    (P6 : PySem.W.keepIn K (.ref C6) = true)
    (B7 : K.lookup C7 = some (excClassObj nm7 qn7 C7 N7 bs7 (.ref C13 :: veMro) true sn7 sub7 ab7 col7 dd7 x07 x17 x27 x37 x57 "ValueError.__new__"))
    (E17 : PySem.W.findIn K (.ref C7) "__getattribute__" = some (some (.builtin "BaseException.__getattribute__")))
    (E27 : PySem.W.findIn K (.ref C7) "__getattr__" = some none)
    (E37 : PySem.W.findIn K (.ref C7) "__setattr__" = some (some (.builtin "object.__setattr__")))
    (E47 : PySem.W.findIn K (.ref C7) "__class__" = some (some (.builtin "object.__class__")))
    (P7 : PySem.W.keepIn K (.ref C7) = true)
    (B8 : K.lookup C8 = some (excClassObj nm8 qn8 C8 N8 bs8 (.ref C13 :: veMro) true sn8 sub8 ab8 col8 dd8 x08 x18 x28 x38 x58 "ValueError.__new__"))
    (E18 : PySem.W.findIn K (.ref C8) "__getattribute__" = some (some (.builtin "BaseException.__getattribute__")))
    (E28 : PySem.W.findIn K (.ref C8) "__getattr__" = some none)
    (E38 : PySem.W.findIn K (.ref C8) "__setattr__" = some (some (.builtin "object.__setattr__")))
    (E48 : PySem.W.findIn K (.ref C8) "__class__" = some (some (.builtin "object.__class__")))
    (P8 : PySem.W.keepIn K (.ref C8) = true)
    (B9 : K.lookup C9 = some (excClassObj nm9 qn9 C9 N9 bs9 (.ref C13 :: veMro) true sn9 sub9 ab9 col9 dd9 x09 x19 x29 x39 x59 "ValueError.__new__"))
    (E19 : PySem.W.findIn K (.ref C9) "__getattribute__" = some (some (.builtin "BaseException.__getattribute__")))
    (E29 : PySem.W.findIn K (.ref C9) "__getattr__" = some none)
    (E39 : PySem.W.findIn K (.ref C9) "__setattr__" = some (some (.builtin "object.__setattr__")))
    (E49 : PySem.W.findIn K (.ref C9) "__class__" = some (some (.builtin "object.__class__")))
    (P9 : PySem.W.keepIn K (.ref C9) = true)
    (B10 : K.lookup C10 = some (excClassObj nm10 qn10 C10 N10 bs10 (.ref C13 :: veMro) true sn10 sub10 ab10 col10 dd10 x010 x110 x210 x310 x510 "ValueError.__new__"))
    (E110 : PySem.W.findIn K (.ref C10) "__getattribute__" = some (some (.builtin "BaseException.__getattribute__")))
    (E210 : PySem.W.findIn K (.ref C10) "__getattr__" = some none)
    (E310 : PySem.W.findIn K (.ref C10) "__setattr__" = some (some (.builtin "object.__setattr__")))
    (E410 : PySem.W.findIn K (.ref C10) "__class__" = some (some (.builtin "object.__class__")))
    (P10 : PySem.W.keepIn K (.ref C10) = true)
    (B11 : K.lookup C11 = some (excClassObj nm11 qn11 C11 N11 bs11 (.ref C13 :: veMro) true sn11 sub11 ab11 col11 dd11 x011 x111 x211 x311 x511 "ValueError.__new__"))
    (E111 : PySem.W.findIn K (.ref C11) "__getattribute__" = some (some (.builtin "BaseException.__getattribute__")))
    (E211 : PySem.W.findIn K (.ref C11) "__getattr__" = some none)
    (E311 : PySem.W.findIn K (.ref C11) "__setattr__" = some (some (.builtin "object.__setattr__")))
    (E411 : PySem.W.findIn K (.ref C11) "__class__" = some (some (.builtin "object.__class__")))
    (P11 : PySem.W.keepIn K (.ref C11) = true)
    (B12 : K.lookup C12 = some (excClassObj nm12 qn12 C12 N12 bs12 (.ref C13 :: veMro) true sn12 sub12 ab12 col12 dd12 x012 x112 x212 x312 x512 "ValueError.__new__"))
    (E112 : PySem.W.findIn K (.ref C12) "__getattribute__" = some (some (.builtin "BaseException.__getattribute__")))
    (E212 : PySem.W.findIn K (.ref C12) "__getattr__" = some none)
    (E312 : PySem.W.findIn K (.ref C12) "__setattr__" = some (some (.builtin "object.__setattr__")))
    (E412 : PySem.W.findIn K (.ref C12) "__class__" = some (some (.builtin "object.__class__")))
    (P12 : PySem.W.keepIn K (.ref C12) = true)
    (B13 : K.lookup C13 = some (excClassObj nm13 qn13 C13 N13 bs13 veMro true sn13 sub13 ab13 col13 dd13 x013 x113 x213 x313 x513 "ValueError.__new__"))
    (E113 : PySem.W.findIn K (.ref C13) "__getattribute__" = some (some (.builtin "BaseException.__getattribute__")))
    (E213 : PySem.W.findIn K (.ref C13) "__getattr__" = some none)
    (E313 : PySem.W.findIn K (.ref C13) "__setattr__" = some (some (.builtin "object.__setattr__")))
    (E413 : PySem.W.findIn K (.ref C13) "__class__" = some (some (.builtin "object.__class__")))
    (P13 : PySem.W.keepIn K (.ref C13) = true)
    (ni0 : PySem.W.findIn K (.ref C0) "__init__" = some (some (.ref fi0)))
    (li0 : K.lookup fi0 = some ⟨oci0, odi0, .func (PySem.W.fnOf "__init__" "NoText.__init__" (defArgs s_i_NoText) (defBody s_i_NoText) (defScope s_i_NoText) .none kVi0 dci0 pmi0 ani0 cdi0 cti0), sli0⟩)
    (ci0 : PySem.W.codeIn K cdi0 "NoText.__init__" = true)
    (ki0 : PySem.W.keepIn K (.ref fi0) = true)
    (mi0 : PySem.W.isFn K (.ref fi0) = true)
    (ni1 : PySem.W.findIn K (.ref C1) "__init__" = some (some (.ref fi1)))
    (li1 : K.lookup fi1 = some ⟨oci1, odi1, .func (PySem.W.fnOf "__init__" "TooMany.__init__" (defArgs s_i_TooMany) (defBody s_i_TooMany) (defScope s_i_TooMany) .none kVi1 dci1 pmi1 ani1 cdi1 cti1), sli1⟩)
    (ci1 : PySem.W.codeIn K cdi1 "TooMany.__init__" = true)
    (ki1 : PySem.W.keepIn K (.ref fi1) = true)
    (mi1 : PySem.W.isFn K (.ref fi1) = true)
    (ni2 : PySem.W.findIn K (.ref C2) "__init__" = some (some (.ref fi2)))
    (li2 : K.lookup fi2 = some ⟨oci2, odi2, .func (PySem.W.fnOf "__init__" "Twice.__init__" (defArgs s_i_Twice) (defBody s_i_Twice) (defScope s_i_Twice) .none kVi2 dci2 pmi2 ani2 cdi2 cti2), sli2⟩)
    (ci2 : PySem.W.codeIn K cdi2 "Twice.__init__" = true)
    (ki2 : PySem.W.keepIn K (.ref fi2) = true)
    (mi2 : PySem.W.isFn K (.ref fi2) = true)
    (ni3 : PySem.W.findIn K (.ref C3) "__init__" = some (some (.ref fi3)))
    (li3 : K.lookup fi3 = some ⟨oci3, odi3, .func (PySem.W.fnOf "__init__" "Double.__init__" (defArgs s_i_Double) (defBody s_i_Double) (defScope s_i_Double) .none kVi3 dci3 pmi3 ani3 cdi3 cti3), sli3⟩)
    (ci3 : PySem.W.codeIn K cdi3 "Double.__init__" = true)
    (ki3 : PySem.W.keepIn K (.ref fi3) = true)
    (mi3 : PySem.W.isFn K (.ref fi3) = true)
    (ni4 : PySem.W.findIn K (.ref C4) "__init__" = some (some (.ref fi4)))
    (li4 : K.lookup fi4 = some ⟨oci4, odi4, .func (PySem.W.fnOf "__init__" "Orphan.__init__" (defArgs s_i_Orphan) (defBody s_i_Orphan) (defScope s_i_Orphan) .none kVi4 dci4 pmi4 ani4 cdi4 cti4), sli4⟩)
    (ci4 : PySem.W.codeIn K cdi4 "Orphan.__init__" = true)
    (ki4 : PySem.W.keepIn K (.ref fi4) = true)
    (mi4 : PySem.W.isFn K (.ref fi4) = true)
    (ni5 : PySem.W.findIn K (.ref C5) "__init__" = some (some (.ref fi5)))
    (li5 : K.lookup fi5 = some ⟨oci5, odi5, .func (PySem.W.fnOf "__init__" "Clash.__init__" (defArgs s_i_Clash) (defBody s_i_Clash) (defScope s_i_Clash) .none kVi5 dci5 pmi5 ani5 cdi5 cti5), sli5⟩)
    (ci5 : PySem.W.codeIn K cdi5 "Clash.__init__" = true)
    (ki5 : PySem.W.keepIn K (.ref fi5) = true)
    (mi5 : PySem.W.isFn K (.ref fi5) = true)
    (ni6 : PySem.W.findIn K (.ref C6) "__init__" = some (some (.ref fi6)))
    (li6 : K.lookup fi6 = some ⟨oci6, odi6, .func (PySem.W.fnOf "__init__" "NoRow.__init__" (defArgs s_i_NoRow) (defBody s_i_NoRow) (defScope s_i_NoRow) .none kVi6 dci6 pmi6 ani6 cdi6 cti6), sli6⟩)
    (ci6 : PySem.W.codeIn K cdi6 "NoRow.__init__" = true)
    (ki6 : PySem.W.keepIn K (.ref fi6) = true)
    (mi6 : PySem.W.isFn K (.ref fi6) = true)
    (ni7 : PySem.W.findIn K (.ref C7) "__init__" = some (some (.ref fi7)))
    (li7 : K.lookup fi7 = some ⟨oci7, odi7, .func (PySem.W.fnOf "__init__" "NoPart.__init__" (defArgs s_i_NoPart) (defBody s_i_NoPart) (defScope s_i_NoPart) .none kVi7 dci7 pmi7 ani7 cdi7 cti7), sli7⟩)
    (ci7 : PySem.W.codeIn K cdi7 "NoPart.__init__" = true)
    (ki7 : PySem.W.keepIn K (.ref fi7) = true)
    (mi7 : PySem.W.isFn K (.ref fi7) = true)
    (ni8 : PySem.W.findIn K (.ref C8) "__init__" = some (some (.ref fi8)))
    (li8 : K.lookup fi8 = some ⟨oci8, odi8, .func (PySem.W.fnOf "__init__" "NoDrop.__init__" (defArgs s_i_NoDrop) (defBody s_i_NoDrop) (defScope s_i_NoDrop) .none kVi8 dci8 pmi8 ani8 cdi8 cti8), sli8⟩)
    (ci8 : PySem.W.codeIn K cdi8 "NoDrop.__init__" = true)
    (ki8 : PySem.W.keepIn K (.ref fi8) = true)
    (mi8 : PySem.W.isFn K (.ref fi8) = true)
    (ni9 : PySem.W.findIn K (.ref C9) "__init__" = some (some (.ref fi9)))
    (li9 : K.lookup fi9 = some ⟨oci9, odi9, .func (PySem.W.fnOf "__init__" "NoName.__init__" (defArgs s_i_NoName) (defBody s_i_NoName) (defScope s_i_NoName) .none kVi9 dci9 pmi9 ani9 cdi9 cti9), sli9⟩)
    (ci9 : PySem.W.codeIn K cdi9 "NoName.__init__" = true)
    (ki9 : PySem.W.keepIn K (.ref fi9) = true)
    (mi9 : PySem.W.isFn K (.ref fi9) = true)
    (ni10 : PySem.W.findIn K (.ref C12) "__init__" = some (some (.ref fi10)))
    (li10 : K.lookup fi10 = some ⟨oci10, odi10, .func (PySem.W.fnOf "__init__" "Fault.__init__" (defArgs s_i_Fault) (defBody s_i_Fault) (defScope s_i_Fault) .none kVi10 dci10 pmi10 ani10 cdi10 cti10), sli10⟩)
    (ci10 : PySem.W.codeIn K cdi10 "Fault.__init__" = true)
    (ki10 : PySem.W.keepIn K (.ref fi10) = true)
    (mi10 : PySem.W.isFn K (.ref fi10) = true)
    (na0 : PySem.W.findIn K (.ref C0) "at" = some none)
    (na1 : PySem.W.findIn K (.ref C1) "at" = some none)
    (na2 : PySem.W.findIn K (.ref C2) "at" = some none)
    (na3 : PySem.W.findIn K (.ref C3) "at" = some none)
    (na4 : PySem.W.findIn K (.ref C4) "at" = some none)
    (na5 : PySem.W.findIn K (.ref C5) "at" = some none)
    (na6 : PySem.W.findIn K (.ref C6) "at" = some none)
    (na7 : PySem.W.findIn K (.ref C7) "address" = some none)
    (na8 : PySem.W.findIn K (.ref C8) "address" = some none)
    (na9 : PySem.W.findIn K (.ref C9) "name" = some none)
    (na10 : PySem.W.findIn K (.ref C12) "word" = some none)
    (na11 : PySem.W.findIn K (.ref C12) "trail" = some none)
    (na12 : PySem.W.findIn K (.ref C12) "whose" = some none)
    (na13 : PySem.W.findIn K (.ref C12) "name" = some none)
    (j10 : PySem.W.findIn K (.ref C10) "__init__" = some (some (.builtin "ValueError.__init__")))
    (j11 : PySem.W.findIn K (.ref C11) "__init__" = some (some (.builtin "ValueError.__init__")))
    (j13 : PySem.W.findIn K (.ref C13) "__init__" = some (some (.builtin "ValueError.__init__")))
    (cg : PySem.W.specialIn K (.builtin "object.__class__") "__get__" = some (some (.builtin "getset_descriptor.__get__")))
    (ctk : PySem.W.takesIn K (.builtin "object.__class__") = some true)
    (y1 : PySem.W.specialIn K (.ref C13) "__getattribute__" = some (some (.builtin "type.__getattribute__")))
    (y2 : PySem.W.readsIn K C13 (.type "type") = true)
    (y3 : PySem.W.findCls K (.ref C13) (.type "type") "__init__" = some (.val (.builtin "ValueError.__init__")))
    (NH : K.lookup N13 = some ⟨oN, dN, .dict esN nN, slN⟩)
    (z0 : PySem.W.nsIn K mainGlobals "len" = some none)
    (z1 : PySem.W.nsIn K mainGlobals "range" = some none)
    (z2 : PySem.W.nsIn K mainGlobals "isinstance" = some none)
    (z3 : PySem.W.nsIn K mainGlobals "int" = some none)
    (z4 : PySem.W.nsIn K mainGlobals "bool" = some none)
    (z5 : PySem.W.nsIn K mainGlobals "str" = some none)
    (z6 : PySem.W.nsIn K mainGlobals "list" = some none)
    (z7 : PySem.W.nsIn K mainGlobals "max" = some none)
    (z8 : PySem.W.nsIn K mainGlobals "min" = some none)
    (z9 : PySem.W.nsIn K mainGlobals "ValueError" = some none)
    (SK : strKeysB esN = true)
    (NI : nsFind esN "__init__" = none)
    (ND : [C0, C1, C2, C3, C4, C5, C6, C7, C8, C9, C10, C11, C12, C13].Nodup) :
    ∃ fd : FuncData, (∀ (s : Shared) (v : Value), BindsTo s fd ⟨[v], []⟩ [("_law_script", v)]) ∧ ∀ base : Heap, K.In base → base.Ns mainGlobals mg → FnOk l.prog w K mg base CX0 5 fa fd ["_law_script"] (spLaw K) := by
  have e := hfa.symm.trans (PySem.W.mg_of X G a10)
  cases e
  have F0 := fun_mk (st := s_law_cell) l0 c0 k0
  have A_0 : FnAt K mg "_law_cell" s_law_cell psCell f0 _ := ⟨F0, F0.binds (ps := psCell) fun _ _ _ _ _ _ us hl => match us, hl with | [_, _], _ => rfl, PySem.W.mg_of X G a0⟩
  have F1 := fun_mk (st := s_law_sub) l1 c1 k1
  have A_1 : FnAt K mg "_law_sub" s_law_sub psSub f1 _ := ⟨F1, F1.binds (ps := psSub) fun _ _ _ _ _ _ us hl => match us, hl with | [_, _], _ => rfl, PySem.W.mg_of X G a1⟩
  have F2 := fun_mk (st := s_law_number) l2 c2 k2
  have A_2 : FnAt K mg "_law_number" s_law_number psNumber f2 _ := ⟨F2, F2.binds (ps := psNumber) fun _ _ _ _ _ _ us hl => match us, hl with | [_, _], _ => rfl, PySem.W.mg_of X G a2⟩
  have F3 := fun_mk (st := s_law_pick) l3 c3 k3
  have A_3 : FnAt K mg "_law_pick" s_law_pick psPick f3 _ := ⟨F3, F3.binds (ps := psPick) fun _ _ _ _ _ _ us hl => match us, hl with | [_, _, _], _ => rfl, PySem.W.mg_of X G a3⟩
  have F4 := fun_mk (st := s_law_name) l4 c4 k4
  have A_4 : FnAt K mg "_law_name" s_law_name psName f4 _ := ⟨F4, F4.binds (ps := psName) fun _ _ _ _ _ _ us hl => match us, hl with | [_], _ => rfl, PySem.W.mg_of X G a4⟩
  have F5 := fun_mk (st := s_law_flags) l5 c5 k5
  have A_5 : FnAt K mg "_law_flags" s_law_flags psFlags f5 _ := ⟨F5, F5.binds (ps := psFlags) fun _ _ _ _ _ _ us hl => match us, hl with | [_], _ => rfl, PySem.W.mg_of X G a5⟩
  have F6 := fun_mk (st := s_law_placed) l6 c6 k6
  have A_6 : FnAt K mg "_law_placed" s_law_placed psPlaced f6 _ := ⟨F6, F6.binds (ps := psPlaced) fun _ _ _ _ _ _ us hl => match us, hl with | [_, _], _ => rfl, PySem.W.mg_of X G a6⟩
  have F7 := fun_mk (st := s_law_worded) l7 c7 k7
  have A_7 : FnAt K mg "_law_worded" s_law_worded psWorded f7 _ := ⟨F7, F7.binds (ps := psWorded) fun _ _ _ _ _ _ us hl => match us, hl with | [_, _], _ => rfl, PySem.W.mg_of X G a7⟩
  have F8 := fun_mk (st := s_law_keeps) l8 c8 k8
  have A_8 : FnAt K mg "_law_keeps" s_law_keeps psKeeps f8 _ := ⟨F8, F8.binds (ps := psKeeps) fun _ _ _ _ _ _ us hl => match us, hl with | [_, _, _, _], _ => rfl, PySem.W.mg_of X G a8⟩
  have F9 := fun_mk (st := s_law_fault) l9 c9 k9
  have A_9 : FnAt K mg "_law_fault" s_law_fault psFault f9 _ := ⟨F9, F9.binds (ps := psFault) fun _ _ _ _ _ _ us hl => match us, hl with | [_], _ => rfl, PySem.W.mg_of X G a9⟩
  have F10 := fun_mk (st := s_law) l10 c10 k10
  have J0 := fun_mk (st := s_i_NoText) li0 ci0 ki0
  have I_0 : XIn K C0 "NoText.__init__" s_i_NoText psPINoText fi0 _ := ⟨J0, J0.binds (ps := psPINoText) fun _ _ _ _ _ _ us hl => match us, hl with | [_, _], _ => rfl, ni0, mi0, P0, by decide⟩
  have J1 := fun_mk (st := s_i_TooMany) li1 ci1 ki1
  have I_1 : XIn K C1 "TooMany.__init__" s_i_TooMany psPITooMany fi1 _ := ⟨J1, J1.binds (ps := psPITooMany) fun _ _ _ _ _ _ us hl => match us, hl with | [_, _], _ => rfl, ni1, mi1, P1, by decide⟩
  have J2 := fun_mk (st := s_i_Twice) li2 ci2 ki2
  have I_2 : XIn K C2 "Twice.__init__" s_i_Twice psPITwice fi2 _ := ⟨J2, J2.binds (ps := psPITwice) fun _ _ _ _ _ _ us hl => match us, hl with | [_, _], _ => rfl, ni2, mi2, P2, by decide⟩
  have J3 := fun_mk (st := s_i_Double) li3 ci3 ki3
  have I_3 : XIn K C3 "Double.__init__" s_i_Double psPIDouble fi3 _ := ⟨J3, J3.binds (ps := psPIDouble) fun _ _ _ _ _ _ us hl => match us, hl with | [_, _], _ => rfl, ni3, mi3, P3, by decide⟩
  have J4 := fun_mk (st := s_i_Orphan) li4 ci4 ki4
  have I_4 : XIn K C4 "Orphan.__init__" s_i_Orphan psPIOrphan fi4 _ := ⟨J4, J4.binds (ps := psPIOrphan) fun _ _ _ _ _ _ us hl => match us, hl with | [_, _], _ => rfl, ni4, mi4, P4, by decide⟩
  have J5 := fun_mk (st := s_i_Clash) li5 ci5 ki5
  have I_5 : XIn K C5 "Clash.__init__" s_i_Clash psPIClash fi5 _ := ⟨J5, J5.binds (ps := psPIClash) fun _ _ _ _ _ _ us hl => match us, hl with | [_, _], _ => rfl, ni5, mi5, P5, by decide⟩
  have J6 := fun_mk (st := s_i_NoRow) li6 ci6 ki6
  have I_6 : XIn K C6 "NoRow.__init__" s_i_NoRow psPINoRow fi6 _ := ⟨J6, J6.binds (ps := psPINoRow) fun _ _ _ _ _ _ us hl => match us, hl with | [_, _], _ => rfl, ni6, mi6, P6, by decide⟩
  have J7 := fun_mk (st := s_i_NoPart) li7 ci7 ki7
  have I_7 : XIn K C7 "NoPart.__init__" s_i_NoPart psPINoPart fi7 _ := ⟨J7, J7.binds (ps := psPINoPart) fun _ _ _ _ _ _ us hl => match us, hl with | [_, _], _ => rfl, ni7, mi7, P7, by decide⟩
  have J8 := fun_mk (st := s_i_NoDrop) li8 ci8 ki8
  have I_8 : XIn K C8 "NoDrop.__init__" s_i_NoDrop psPINoDrop fi8 _ := ⟨J8, J8.binds (ps := psPINoDrop) fun _ _ _ _ _ _ us hl => match us, hl with | [_, _], _ => rfl, ni8, mi8, P8, by decide⟩
  have J9 := fun_mk (st := s_i_NoName) li9 ci9 ki9
  have I_9 : XIn K C9 "NoName.__init__" s_i_NoName psPINoName fi9 _ := ⟨J9, J9.binds (ps := psPINoName) fun _ _ _ _ _ _ us hl => match us, hl with | [_, _], _ => rfl, ni9, mi9, P9, by decide⟩
  have J10 := fun_mk (st := s_i_Fault) li10 ci10 ki10
  have I_10 : XIn K C12 "Fault.__init__" s_i_Fault psPIFault fi10 _ := ⟨J10, J10.binds (ps := psPIFault) fun _ _ _ _ _ _ us hl => match us, hl with | [_, _, _, _, _], _ => rfl, ni10, mi10, P12, by decide⟩
  have V0 : ClsX K C0 := clsX_of B0 rfl rfl E10 E20 E30 E40 cg ctk
  have W0 : ExC K C0 := exC_sub B13 NH SK NI B0
  have U0 : ClAt K C0 (bmAt C13 0) := ⟨_, _, _, _, _, _, _, _, _, _, _, _, _, _, B0⟩
  have V1 : ClsX K C1 := clsX_of B1 rfl rfl E11 E21 E31 E41 cg ctk
  have W1 : ExC K C1 := exC_sub B13 NH SK NI B1
  have U1 : ClAt K C1 (bmAt C13 1) := ⟨_, _, _, _, _, _, _, _, _, _, _, _, _, _, B1⟩
  have V2 : ClsX K C2 := clsX_of B2 rfl rfl E12 E22 E32 E42 cg ctk
  have W2 : ExC K C2 := exC_sub B13 NH SK NI B2
  have U2 : ClAt K C2 (bmAt C13 2) := ⟨_, _, _, _, _, _, _, _, _, _, _, _, _, _, B2⟩
  have V3 : ClsX K C3 := clsX_of B3 rfl rfl E13 E23 E33 E43 cg ctk
  have W3 : ExC K C3 := exC_sub B13 NH SK NI B3
  have U3 : ClAt K C3 (bmAt C13 3) := ⟨_, _, _, _, _, _, _, _, _, _, _, _, _, _, B3⟩
  have V4 : ClsX K C4 := clsX_of B4 rfl rfl E14 E24 E34 E44 cg ctk
  have W4 : ExC K C4 := exC_sub B13 NH SK NI B4
  have U4 : ClAt K C4 (bmAt C13 4) := ⟨_, _, _, _, _, _, _, _, _, _, _, _, _, _, B4⟩
  have V5 : ClsX K C5 := clsX_of B5 rfl rfl E15 E25 E35 E45 cg ctk
  have W5 : ExC K C5 := exC_sub B13 NH SK NI B5
  have U5 : ClAt K C5 (bmAt C13 5) := ⟨_, _, _, _, _, _, _, _, _, _, _, _, _, _, B5⟩
  have V6 : ClsX K C6 := clsX_of B6 rfl rfl E16 E26 E36 E46 cg ctk
  have W6 : ExC K C6 := exC_sub B13 NH SK NI B6
  have U6 : ClAt K C6 (bmAt C13 6) := ⟨_, _, _, _, _, _, _, _, _, _, _, _, _, _, B6⟩
  have V7 : ClsX K C7 := clsX_of B7 rfl rfl E17 E27 E37 E47 cg ctk
  have W7 : ExC K C7 := exC_sub B13 NH SK NI B7
  have U7 : ClAt K C7 (bmAt C13 7) := ⟨_, _, _, _, _, _, _, _, _, _, _, _, _, _, B7⟩
  have V8 : ClsX K C8 := clsX_of B8 rfl rfl E18 E28 E38 E48 cg ctk
  have W8 : ExC K C8 := exC_sub B13 NH SK NI B8
  have U8 : ClAt K C8 (bmAt C13 8) := ⟨_, _, _, _, _, _, _, _, _, _, _, _, _, _, B8⟩
  have V9 : ClsX K C9 := clsX_of B9 rfl rfl E19 E29 E39 E49 cg ctk
  have W9 : ExC K C9 := exC_sub B13 NH SK NI B9
  have U9 : ClAt K C9 (bmAt C13 9) := ⟨_, _, _, _, _, _, _, _, _, _, _, _, _, _, B9⟩
  have V10 : ClsX K C10 := clsX_of B10 rfl rfl E110 E210 E310 E410 cg ctk
  have W10 : ExC K C10 := exC_sub B13 NH SK NI B10
  have U10 : ClAt K C10 (bmAt C13 10) := ⟨_, _, _, _, _, _, _, _, _, _, _, _, _, _, B10⟩
  have V11 : ClsX K C11 := clsX_of B11 rfl rfl E111 E211 E311 E411 cg ctk
  have W11 : ExC K C11 := exC_sub B13 NH SK NI B11
  have U11 : ClAt K C11 (bmAt C13 11) := ⟨_, _, _, _, _, _, _, _, _, _, _, _, _, _, B11⟩
  have V12 : ClsX K C12 := clsX_of B12 rfl rfl E112 E212 E312 E412 cg ctk
  have W12 : ExC K C12 := exC_sub B13 NH SK NI B12
  have U12 : ClAt K C12 (bmAt C13 12) := ⟨_, _, _, _, _, _, _, _, _, _, _, _, _, _, B12⟩
  have V13 : ClsX K C13 := clsX_of B13 rfl rfl E113 E213 E313 E413 cg ctk
  have W13 : ExC K C13 := exC_he B13
  have U13 : ClAt K C13 (bmAt C13 13) := ⟨_, _, _, _, _, _, _, _, _, _, _, _, _, _, B13⟩
  have FM : Fam K (fun i => [C0, C1, C2, C3, C4, C5, C6, C7, C8, C9, C10, C11, C12, C13].getD i 0) := fam_of (cs := [C0, C1, C2, C3, C4, C5, C6, C7, C8, C9, C10, C11, C12, C13]) rfl ND (fun i h => match i, h with | 0, _ => U0 | 1, _ => U1 | 2, _ => U2 | 3, _ => U3 | 4, _ => U4 | 5, _ => U5 | 6, _ => U6 | 7, _ => U7 | 8, _ => U8 | 9, _ => U9 | 10, _ => U10 | 11, _ => U11 | 12, _ => U12 | 13, _ => U13 | n + 14, h => absurd h (by omega)) (fun i h => match i, h with | 0, _ => V0 | 1, _ => V1 | 2, _ => V2 | 3, _ => V3 | 4, _ => V4 | 5, _ => V5 | 6, _ => V6 | 7, _ => V7 | 8, _ => V8 | 9, _ => V9 | 10, _ => V10 | 11, _ => V11 | 12, _ => V12 | 13, _ => V13 | n + 14, h => absurd h (by omega)) (fun i h => match i, h with | 0, _ => W0 | 1, _ => W1 | 2, _ => W2 | 3, _ => W3 | 4, _ => W4 | 5, _ => W5 | 6, _ => W6 | 7, _ => W7 | 8, _ => W8 | 9, _ => W9 | 10, _ => W10 | 11, _ => W11 | 12, _ => W12 | 13, _ => W13 | n + 14, h => absurd h (by omega))
  have TT : Tx K mg (fun i => [C0, C1, C2, C3, C4, C5, C6, C7, C8, C9, C10, C11, C12, C13].getD i 0) := ⟨PySem.W.mg_none_of X G z0, PySem.W.mg_none_of X G z1, PySem.W.mg_none_of X G z2, PySem.W.mg_none_of X G z3, PySem.W.mg_none_of X G z4, PySem.W.mg_none_of X G z5, PySem.W.mg_none_of X G z6, PySem.W.mg_none_of X G z7, PySem.W.mg_none_of X G z8, PySem.W.mg_none_of X G z9, ⟨_, _, A_0⟩, ⟨_, _, A_1⟩, ⟨_, _, A_2⟩, ⟨_, _, A_3⟩, ⟨_, _, A_4⟩, ⟨_, _, A_5⟩, ⟨_, _, A_6⟩, ⟨_, _, A_7⟩, ⟨_, _, A_8⟩, ⟨_, _, A_9⟩, ⟨_, _, I_0⟩, ⟨_, _, I_1⟩, ⟨_, _, I_2⟩, ⟨_, _, I_3⟩, ⟨_, _, I_4⟩, ⟨_, _, I_5⟩, ⟨_, _, I_6⟩, ⟨_, _, I_7⟩, ⟨_, _, I_8⟩, ⟨_, _, I_9⟩, ⟨_, _, I_10⟩, PySem.W.mg_of X G A0, PySem.W.mg_of X G A1, PySem.W.mg_of X G A2, PySem.W.mg_of X G A3, PySem.W.mg_of X G A4, PySem.W.mg_of X G A5, PySem.W.mg_of X G A6, PySem.W.mg_of X G A7, PySem.W.mg_of X G A8, PySem.W.mg_of X G A9, PySem.W.mg_of X G A10, PySem.W.mg_of X G A11, PySem.W.mg_of X G A12, PySem.W.mg_of X G A13, FM, na0, na1, na2, na3, na4, na5, na6, na7, na8, na9, na10, na11, na12, na13, j10, P10, j11, P11, j13, P13, y1, y2, y3⟩
  exact ⟨PySem.W.fnOf "law" "law" (defArgs s_law) (defBody s_law) (defScope s_law) .none kV10 dc10 pm10 an10 cd10 ct10, fun s v => .of_eq rfl, fun base _ _ => ok_law TT F10⟩

theorem walk {l : PySem.W.OpenLaw} {q : Program} {loose : List Str} {XP : (Str → Option Value) → Heap → Prop} {YP : World → Heap → Prop} {d : DefRec} {K : Params → PySem.W.Frag} (hn : l.most = some 63) (hdf : d.params.defaults = [])
    (hY : ∀ (w : World) (h : Heap), YP w h → (K w.params).In h)
    (F : ∀ (w : World) (mg : Str → Option Value) (fa : Addr) (h : Heap), (K w.params).In h → h.Ns mainGlobals mg → mg d.name = some (.ref fa) →
      ∃ fd : FuncData, (∀ (s : Shared) (u : Value), BindsTo s fd ⟨[u], []⟩ [("_law_script", u)]) ∧ ∀ base : Heap, (K w.params).In base → base.Ns mainGlobals mg → FnOk l.prog w (K w.params) mg base CX0 5 fa fd ["_law_script"] (spLaw (K w.params))) :
    PySem.W.WalkO q loose XP YP l.row.toRowW d [] (fun f vs => PySem.call f vs) :=
  L2.walk_of (n := 63) (k := 5) (x := "_law_script") (CX := fun _ => CX0) (sp := fun w => spLaw (K w.params)) hn (by decide) hdf ⟨rfl, by decide, by decide⟩ hY F (fun _ _ a ns hl _ hS => ⟨a, ns, rfl, hS, hl, fun _ => rfl⟩) fun _ _ _ _ _ z => z
end Mine
open PySem PySem.W PyProof.Rows
set_option maxRecDepth 100000 in
set_option maxHeartbeats 0 in
theorem PySem.Challenge.cw_drawhouse_k16_refusals_apart_holds : PySem.Challenge.rw_drawhouse_k16_refusals_apart.Holds := by
  w_on; o_law; k_head; (case hw => w_witness2)
  k_fill
  refine Mine.walk (l := PySem.Challenge.rw_drawhouse_k16_refusals_apart) rfl rfl (fun w h Y => PySem.W.kIn_of Y) ?F
  case F =>
    intro w mg fa h KX G hmg
    refine' Mine.all_mk KX G hmg ?ua0 ?ul0 ?uc0 ?uk0 ?ua1 ?ul1 ?uc1 ?uk1 ?ua2 ?ul2 ?uc2 ?uk2 ?ua3 ?ul3 ?uc3 ?uk3 ?ua4 ?ul4 ?uc4 ?uk4 ?ua5 ?ul5 ?uc5 ?uk5 ?ua6 ?ul6 ?uc6 ?uk6 ?ua7 ?ul7 ?uc7 ?uk7 ?ua8 ?ul8 ?uc8 ?uk8 ?ua9 ?ul9 ?uc9 ?uk9 ?ua10 ?ul10 ?uc10 ?uk10 ?uA0 ?uA1 ?uA2 ?uA3 ?uA4 ?uA5 ?uA6 ?uA7 ?uA8 ?uA9 ?uA10 ?uA11 ?uA12 ?uA13 ?uB0 ?uE10 ?uE20 ?uE30 ?uE40 ?uP0 ?uB1 ?uE11 ?uE21 ?uE31 ?uE41 ?uP1 ?uB2 ?uE12 ?uE22 ?uE32 ?uE42 ?uP2 ?uB3 ?uE13 ?uE23 ?uE33 ?uE43 ?uP3 ?uB4 ?uE14 ?uE24 ?uE34 ?uE44 ?uP4 ?uB5 ?uE15 ?uE25 ?uE35 ?uE45 ?uP5 ?uB6 ?uE16 ?uE26 ?uE36 ?uE46 ?uP6 ?uB7 ?uE17 ?uE27 ?uE37 ?uE47 ?uP7 ?uB8 ?uE18 ?uE28 ?uE38 ?uE48 ?uP8 ?uB9 ?uE19 ?uE29 ?uE39 ?uE49 ?uP9 ?uB10 ?uE110 ?uE210 ?uE310 ?uE410 ?uP10 ?uB11 ?uE111 ?uE211 ?uE311 ?uE411 ?uP11 ?uB12 ?uE112 ?uE212 ?uE312 ?uE412 ?uP12 ?uB13 ?uE113 ?uE213 ?uE313 ?uE413 ?uP13 ?uni0 ?uli0 ?uci0 ?uki0 ?umi0 ?uni1 ?uli1 ?uci1 ?uki1 ?umi1 ?uni2 ?uli2 ?uci2 ?uki2 ?umi2 ?uni3 ?uli3 ?uci3 ?uki3 ?umi3 ?uni4 ?uli4 ?uci4 ?uki4 ?umi4 ?uni5 ?uli5 ?uci5 ?uki5 ?umi5 ?uni6 ?uli6 ?uci6 ?uki6 ?umi6 ?uni7 ?uli7 ?uci7 ?uki7 ?umi7 ?uni8 ?uli8 ?uci8 ?uki8 ?umi8 ?uni9 ?uli9 ?uci9 ?uki9 ?umi9 ?uni10 ?uli10 ?uci10 ?uki10 ?umi10 ?una0 ?una1 ?una2 ?una3 ?una4 ?una5 ?una6 ?una7 ?una8 ?una9 ?una10 ?una11 ?una12 ?una13 ?uj10 ?uj11 ?uj13 ?ucg ?uctk ?uy1 ?uy2 ?uy3 ?uNH ?uz0 ?uz1 ?uz2 ?uz3 ?uz4 ?uz5 ?uz6 ?uz7 ?uz8 ?uz9 ?uSK ?uNI ?uND
    (case ua0 => k_is); (case ul0 => k_is); (case uc0 => k_is); (case uk0 => k_is); (case ua1 => k_is); (case ul1 => k_is)
    (case uc1 => k_is); (case uk1 => k_is); (case ua2 => k_is); (case ul2 => k_is); (case uc2 => k_is); (case uk2 => k_is)
    (case ua3 => k_is); (case ul3 => k_is); (case uc3 => k_is); (case uk3 => k_is); (case ua4 => k_is); (case ul4 => k_is)
    (case uc4 => k_is); (case uk4 => k_is); (case ua5 => k_is); (case ul5 => k_is); (case uc5 => k_is); (case uk5 => k_is)
    (case ua6 => k_is); (case ul6 => k_is); (case uc6 => k_is); (case uk6 => k_is); (case ua7 => k_is); (case ul7 => k_is)
    (case uc7 => k_is); (case uk7 => k_is); (case ua8 => k_is); (case ul8 => k_is); (case uc8 => k_is); (case uk8 => k_is)
    (case ua9 => k_is); (case ul9 => k_is); (case uc9 => k_is); (case uk9 => k_is); (case ua10 => k_is); (case ul10 => k_is)
    (case uc10 => k_is); (case uk10 => k_is); (case uA0 => k_is); (case uA1 => k_is); (case uA2 => k_is); (case uA3 => k_is)
    (case uA4 => k_is); (case uA5 => k_is); (case uA6 => k_is); (case uA7 => k_is); (case uA8 => k_is); (case uA9 => k_is)
    (case uA10 => k_is); (case uA11 => k_is); (case uA12 => k_is); (case uA13 => k_is); (case uB0 => k_is); (case uE10 => k_is)
    (case uE20 => k_is); (case uE30 => k_is); (case uE40 => k_is); (case uP0 => k_is); (case uB1 => k_is); (case uE11 => k_is)
    (case uE21 => k_is); (case uE31 => k_is); (case uE41 => k_is); (case uP1 => k_is); (case uB2 => k_is); (case uE12 => k_is)
    (case uE22 => k_is); (case uE32 => k_is); (case uE42 => k_is); (case uP2 => k_is); (case uB3 => k_is); (case uE13 => k_is)
    (case uE23 => k_is); (case uE33 => k_is); (case uE43 => k_is); (case uP3 => k_is); (case uB4 => k_is); (case uE14 => k_is)
    (case uE24 => k_is); (case uE34 => k_is); (case uE44 => k_is); (case uP4 => k_is); (case uB5 => k_is); (case uE15 => k_is)
    (case uE25 => k_is); (case uE35 => k_is); (case uE45 => k_is); (case uP5 => k_is); (case uB6 => k_is); (case uE16 => k_is)
    (case uE26 => k_is); (case uE36 => k_is); (case uE46 => k_is); (case uP6 => k_is); (case uB7 => k_is); (case uE17 => k_is)
    (case uE27 => k_is); (case uE37 => k_is); (case uE47 => k_is); (case uP7 => k_is); (case uB8 => k_is); (case uE18 => k_is)
    (case uE28 => k_is); (case uE38 => k_is); (case uE48 => k_is); (case uP8 => k_is); (case uB9 => k_is); (case uE19 => k_is)
    (case uE29 => k_is); (case uE39 => k_is); (case uE49 => k_is); (case uP9 => k_is); (case uB10 => k_is); (case uE110 => k_is)
    (case uE210 => k_is); (case uE310 => k_is); (case uE410 => k_is); (case uP10 => k_is); (case uB11 => k_is); (case uE111 => k_is)
    (case uE211 => k_is); (case uE311 => k_is); (case uE411 => k_is); (case uP11 => k_is); (case uB12 => k_is); (case uE112 => k_is)
    (case uE212 => k_is); (case uE312 => k_is); (case uE412 => k_is); (case uP12 => k_is); (case uB13 => k_is); (case uE113 => k_is)
    (case uE213 => k_is); (case uE313 => k_is); (case uE413 => k_is); (case uP13 => k_is); (case uni0 => k_is); (case uli0 => k_is)
    (case uci0 => k_is); (case uki0 => k_is); (case umi0 => k_is); (case uni1 => k_is); (case uli1 => k_is); (case uci1 => k_is)
    (case uki1 => k_is); (case umi1 => k_is); (case uni2 => k_is); (case uli2 => k_is); (case uci2 => k_is); (case uki2 => k_is)
    (case umi2 => k_is); (case uni3 => k_is); (case uli3 => k_is); (case uci3 => k_is); (case uki3 => k_is); (case umi3 => k_is)
    (case uni4 => k_is); (case uli4 => k_is); (case uci4 => k_is); (case uki4 => k_is); (case umi4 => k_is); (case uni5 => k_is)
    (case uli5 => k_is); (case uci5 => k_is); (case uki5 => k_is); (case umi5 => k_is); (case uni6 => k_is); (case uli6 => k_is)
    (case uci6 => k_is); (case uki6 => k_is); (case umi6 => k_is); (case uni7 => k_is); (case uli7 => k_is); (case uci7 => k_is)
    (case uki7 => k_is); (case umi7 => k_is); (case uni8 => k_is); (case uli8 => k_is); (case uci8 => k_is); (case uki8 => k_is)
    (case umi8 => k_is); (case uni9 => k_is); (case uli9 => k_is); (case uci9 => k_is); (case uki9 => k_is); (case umi9 => k_is)
    (case uni10 => k_is); (case uli10 => k_is); (case uci10 => k_is); (case uki10 => k_is); (case umi10 => k_is); (case una0 => k_is)
    (case una1 => k_is); (case una2 => k_is); (case una3 => k_is); (case una4 => k_is); (case una5 => k_is); (case una6 => k_is)
    (case una7 => k_is); (case una8 => k_is); (case una9 => k_is); (case una10 => k_is); (case una11 => k_is); (case una12 => k_is)
    (case una13 => k_is); (case uj10 => k_is); (case uj11 => k_is); (case uj13 => k_is); (case ucg => k_is); (case uctk => k_is)
    (case uy1 => k_is); (case uy2 => k_is); (case uy3 => k_is); (case uNH => k_is); (case uz0 => k_is); (case uz1 => k_is)
    (case uz2 => k_is); (case uz3 => k_is); (case uz4 => k_is); (case uz5 => k_is); (case uz6 => k_is); (case uz7 => k_is)
    (case uz8 => k_is); (case uz9 => k_is)
    (case uSK => rfl); (case uNI => rfl); (case uND => decide)
#print axioms PySem.Challenge.cw_drawhouse_k16_refusals_apart_holds
