import PyProof.Rows.All
import Wide.All
import OpenK.AllK
import Wide.FinOn
import Lean
import PyProof.EqAt
import PyProof.EqKinds
import PyProof.TupleCall
import KE.KIntText
import PyProof.ZipIter
import PyProof.EnumFor
import PyProof.EnumMake
import PySem.Challenge.RW_drawhouse_k24_parts_told_and_read
set_option Elab.async false
set_option linter.all false
set_option maxRecDepth 100000
namespace L2
open PySem PySem.Spec PyProof.Rows

noncomputable abbrev Key := Sum Int Str
noncomputable def keyIs : Key → Value → Bool
  | .inl k, v => Value.isInt k v
  | .inr x, v => Value.isStrOf x v
noncomputable def keyH (w : World) : Key → Int
  | .inl k => hashInt k
  | .inr x => hashStr w x
theorem keyIs_shape : ∀ {k : Key} {v : Value}, keyIs k v = true → (∃ i t, k = Sum.inl i ∧ v = Value.int i t) ∨ (∃ x t, k = Sum.inr x ∧ v = Value.str x t)
  | .inl i, v, h => by
    obtain ⟨t, e⟩ := Value.isInt_shape (k := i) (v := v) h
    exact .inl ⟨i, t, rfl, e⟩
  | .inr x, v, h => by
    obtain ⟨t, e⟩ := Value.isStrOf_shape (x := x) (v := v) h
    exact .inr ⟨x, t, rfl, e⟩
theorem key_ll (a b : Int) : decide ((Sum.inl a : Key) = Sum.inl b) = (a == b) := by
  by_cases e : a = b
  · subst e; simp
  · have h : ¬ (Sum.inl a : Key) = Sum.inl b := fun q => e (Sum.inl.inj q)
    rw [decide_eq_false h]
    exact (beq_eq_false_iff_ne.mpr e).symm
theorem key_rr (a b : Str) : decide ((Sum.inr a : Key) = Sum.inr b) = decide (a = b) := by
  by_cases e : a = b
  · subst e; simp
  · have h : ¬ (Sum.inr a : Key) = Sum.inr b := fun q => e (Sum.inr.inj q)
    rw [decide_eq_false h, decide_eq_false e]
theorem key_lr (a : Int) (b : Str) : decide ((Sum.inl a : Key) = Sum.inr b) = false := decide_eq_false (fun q => nomatch q)
theorem key_rl (a : Str) (b : Int) : decide ((Sum.inr a : Key) = Sum.inl b) = false := decide_eq_false (fun q => nomatch q)

noncomputable def mixKind (prog : Program) (w : World) : PySem.KeyKind prog w Key where
  is := keyIs
  hash := keyH w
  inj := fun v a b ha hb => by
    rcases keyIs_shape ha with ⟨i, t, rfl, rfl⟩ | ⟨x, t, rfl, rfl⟩
    · rcases keyIs_shape hb with ⟨j, u, rfl, e⟩ | ⟨y, u, rfl, e⟩
      · injection e with e1 _; rw [e1]
      · exact nomatch e
    · rcases keyIs_shape hb with ⟨j, u, rfl, e⟩ | ⟨y, u, rfl, e⟩
      · exact nomatch e
      · injection e with e1 _; rw [e1]
  byValue := fun k v h => by
    rcases keyIs_shape h with ⟨i, t, rfl, rfl⟩ | ⟨x, t, rfl, rfl⟩ <;> rfl
  pyHash := fun hv h => by
    rcases keyIs_shape hv with ⟨i, t, rfl, rfl⟩ | ⟨x, t, rfl, rfl⟩
    · exact wpAny_pyHash_int h
    · exact wpAny_pyHash_str h
  eqBool := fun hu hv h => by
    rcases keyIs_shape hu with ⟨i, t, rfl, rfl⟩ | ⟨x, t, rfl, rfl⟩
    · rcases keyIs_shape hv with ⟨j, u, rfl, rfl⟩ | ⟨y, u, rfl, rfl⟩
      · rw [key_ll] at h; exact wpAny_eqBool_int h
      · rw [key_lr] at h; exact SeqAt.EqAt.int_str i t y u _ _ _ _ h
    · rcases keyIs_shape hv with ⟨j, u, rfl, rfl⟩ | ⟨y, u, rfl, rfl⟩
      · rw [key_rl] at h; exact SeqAt.EqAt.str_int x t j u _ _ _ _ h
      · rw [key_rr] at h; exact wpAny_eqBool_str h
  «strs» := fun k x t v h => by
    rcases keyIs_shape h with ⟨i, u, rfl, e⟩ | ⟨y, u, rfl, e⟩
    · exact nomatch e
    · injection e with e1 _
      subst e1
      cases v <;> rfl

end L2

namespace L2
open PySem PySem.Spec PyProof.Rows

inductive V where
  | non | bl (b : Bool) | int (i : Int) | str (x : Str) | byt (b : Array UInt8) | flt (b : UInt64) | ref (a : Addr) | ty (n : String)
  deriving DecidableEq

noncomputable def RelV : V → Value → Prop
  | .non, u => u = Value.none
  | .bl b, u => u = Value.bool b
  | .int i, u => ∃ t, u = Value.int i t
  | .str x, u => ∃ t, u = Value.str x t
  | .byt b, u => ∃ t, u = Value.bytes b t
  | .flt b, u => ∃ t, u = Value.float b t
  | .ref a, u => u = Value.ref a
  | .ty n, u => u = Value.type n

noncomputable abbrev Vals : List V → List Value → Prop := Paired RelV
theorem Vals.length {xs : List V} {us : List Value} (r : Vals xs us) : xs.length = us.length := Paired.length r
theorem Vals.get : ∀ {xs : List V} {us : List Value} {i : Nat} {x : V}, Vals xs us → xs[i]? = some x → ∃ u, us[i]? = some u ∧ RelV x u
  | _, _, _, _, .nil, e => by simp at e
  | _, _, 0, _, .cons r _, e => by simp at e; subst e; exact ⟨_, rfl, r⟩
  | _, _, i + 1, x, .cons _ t, e => by
    obtain ⟨u, h1, h2⟩ := Vals.get (i := i) (x := x) t (by simpa using e)
    exact ⟨u, by simpa using h1, h2⟩
theorem Vals.set {x : V} {u : Value} (r : RelV x u) : ∀ {xs : List V} {us : List Value} (i : Nat), Vals xs us → Vals (xs.set i x) (us.set i u)
  | _, _, _, .nil => .nil
  | _, _, 0, .cons _ t => .cons r t
  | _, _, i + 1, .cons q t => .cons q (Vals.set r i t)
theorem Vals.append : ∀ {xs ys : List V} {us ws : List Value}, Vals xs us → Vals ys ws → Vals (xs ++ ys) (us ++ ws)
  | _, _, _, _, .nil, s => s
  | _, _, _, _, .cons r t, s => .cons r (Vals.append t s)
theorem Vals.take : ∀ {xs : List V} {us : List Value} (n : Nat), Vals xs us → Vals (xs.take n) (us.take n)
  | _, _, 0, _ => .nil
  | _, _, _ + 1, .nil => .nil
  | _, _, n + 1, .cons r t => .cons r (Vals.take n t)
theorem Vals.drop : ∀ {xs : List V} {us : List Value} (n : Nat), Vals xs us → Vals (xs.drop n) (us.drop n)
  | _, _, 0, r => r
  | _, _, _ + 1, .nil => .nil
  | _, _, n + 1, .cons _ t => Vals.drop n t
noncomputable def RelO : Option V → Option Value → Prop
  | some v, some u => RelV v u
  | none, none => True
  | _, _ => False
noncomputable def KV {κ : Type} : List (κ × V) → List (κ × Value) → Prop := Paired fun (p : κ × V) (q : κ × Value) => p.1 = q.1 ∧ RelV p.2 q.2

noncomputable def kV : Key → V
  | .inl i => .int i
  | .inr x => .str x

inductive HO where
  /-- a list -/
  | lst (xs : List V)
  /-- a tuple (never changes) -/
  | tup (xs : List V)
  /-- a dict whose keys are ints and texts; one whose keys are tuples of ints and texts (the empty one is both) -/
  | dK (kvs : List (Key × V)) | dT (kvs : List (List Key × V))
  /-- a set of ints: its members, its size -/
  | set (S : Int → Bool) (n : Nat)
  /-- an instance of the class at C, its dict at dx, its attributes -/
  | ins (C dx : Addr) (fs : List (Str × V))
  /-- the dict of the instance at x -/
  | own (x : Addr)
  /-- the dict of an exception -/
  | xd (fs : List (Str × V))
  /-- a bound method, f of x -/
  | met (f x : Addr)
  /-- a range object lo, lo + 1, .. below hi -/
  | rng (lo hi : Int)
  /-- a thing that is known to the object (the script; a dict while a loop walks it): read, never written while it is so -/
  | frz (o : Obj) (u : HO)
  /-- a code object's table -/
  | tbl (ps : Array Value)
  /-- any other thing, by what is true of its one object (a def of one's own: SetO a S n := HO.ext fun h => ..) -/
  | ext (φ : Heap → Prop)

noncomputable abbrev Hp := Addr → Option HO
noncomputable def upd (H : Hp) (a : Addr) (o : HO) : Hp := fun b => if b = a then some o else H b
theorem upd_same {H : Hp} {a : Addr} {o : HO} : upd H a o a = some o := by unfold upd; rw [if_pos rfl]
theorem upd_ne {H : Hp} {a b : Addr} {o : HO} (h : b ≠ a) : upd H a o b = H b := by unfold upd; rw [if_neg h]
theorem ne_of {H : Hp} {a b : Addr} {o u : HO} (h : H a = some o) (h' : H b = some u) (d : o ≠ u) : a ≠ b := by
  intro e; subst e; rw [h] at h'; exact d (Option.some.inj h')
theorem ne_of_none {H : Hp} {a b : Addr} {o : HO} (h : H a = some o) (h' : H b = none) : a ≠ b := by
  intro e; subst e; rw [h] at h'; cases h'

section
variable (P : Program) (w : World)
noncomputable def ObjOk (H : Hp) (h : Heap) (a : Addr) : HO → Prop
  | .lst xs => xs.length ≤ sizeLine ∧ ∃ (its : List Value) (n : Nat), Vals xs its ∧ h.get? a = some { cls := .type "list", data := .seq its.toArray n }
  | .tup xs => xs.length ≤ sizeLine ∧ ∃ its : List Value, Vals xs its ∧ IsTup h a its.toArray
  | .dK kvs => kvs.length ≤ sizeLine ∧ (a == sysModules) = false ∧ ∃ vs, KV kvs vs ∧ h.DictOf (mixKind P w) a vs
  | .dT kvs => kvs.length ≤ sizeLine ∧ (a == sysModules) = false ∧ ∃ xs : List (List Key × Addr × Value),
      Paired (fun (p : List Key × V) (q : List Key × Addr × Value) => p.1 = q.1 ∧ H q.2.1 = some (.tup (p.1.map kV)) ∧ RelV p.2 q.2.2) kvs xs ∧
      ∃ o es ep, h.get? a = some o ∧ o.ExactDict ∧ o.data = .dict es ep ∧ es.toList = xs.map (entryOfKey (tupleKind (mixKind P w))) ∧ (xs.map (·.1)).Nodup
  | .set S n => h.SetOf (intKind P w) a S n
  | .ins C dx fs => H dx = some (.own a) ∧ fs.length ≤ 1000 ∧ dx ≠ a ∧ h.get? a = some (PySem.W.instObj C dx) ∧
      ∃ mA, h.Ns1 dx mA ∧ (∀ f, RelO (fs.lookup f) (mA f)) ∧ PySem.Within mA (fs.map (·.1))
  | .own _ => ∃ o, h.get? a = some o
  | .xd fs => ∃ mA, h.Ns1 a mA ∧ ∀ f, RelO (fs.lookup f) (mA f)
  | .rng lo hi => ∃ t u v, h.get? a = some { cls := .type "range", data := .fields #[.int lo t, .int hi u, .int 1 v] }
  | .frz o u => h.get? a = some o ∧ ObjOk H h a u
  | .tbl ps => h.get? a = some { cls := .none, data := .fields ps }
  | .met f x => h.get? a = some (PySem.W.methodObj (.ref f) (.ref x))
  | .ext φ => φ h ∧ (∃ o, h.get? a = some o) ∧ ∀ h1 h2 : Heap, φ h1 → (∀ o, h1.get? a = some o → h2.get? a = some o) → φ h2
noncomputable def HOk (H : Hp) (h : Heap) : Prop := ∀ a o, H a = some o → ObjOk P w H h a o
end

section
variable {P : Program} {w : World} {H H' : Hp} {h h' : Heap} {a : Addr} {o : HO}
theorem ObjOk.lt (x : ObjOk P w H h a o) : a < h.objs.size := by
  cases o with
  | lst xs => obtain ⟨_, _, _, _, e⟩ := x; exact Heap.lt_size e
  | tup xs => obtain ⟨_, _, _, p⟩ := x; exact p.lt
  | dK kvs => obtain ⟨_, _, _, _, o, _, _, e, _⟩ := x; exact Heap.lt_size e
  | dT kvs => obtain ⟨_, _, _, _, o, _, _, e, _⟩ := x; exact Heap.lt_size e
  | set S n => obtain ⟨o, _, _, _, e, _⟩ := x; exact Heap.lt_size e
  | ins C dx fs => obtain ⟨_, _, _, e, _⟩ := x; exact Heap.lt_size e
  | own y => obtain ⟨_, e⟩ := x; exact Heap.lt_size e
  | xd fs => obtain ⟨_, ⟨_, _, _, e, _⟩, _⟩ := x; exact Heap.lt_size e
  | rng lo hi => obtain ⟨_, _, _, e⟩ := x; exact Heap.lt_size e
  | frz ob u => obtain ⟨e, _⟩ := x; exact Heap.lt_size e
  | tbl ps => exact Heap.lt_size (show h.get? a = some _ from x)
  | met f y => exact Heap.lt_size (show h.get? a = some _ from x)
  | ext φ => obtain ⟨_, ⟨_, e⟩, _⟩ := x; exact Heap.lt_size e
theorem Paired.mapP {α β : Type} {F G : α → β → Prop} : ∀ {l₁ : List α} {l₂ : List β}, Paired F l₁ l₂ → (∀ a b, F a b → G a b) → Paired G l₁ l₂
  | _, _, .nil, _ => .nil
  | _, _, .cons r t, f => .cons (f _ _ r) (Paired.mapP t f)
theorem ObjOk.stay (x : ObjOk P w H h a o) (k : ∀ b u, (b = a ∨ H b = some (.own a)) → h.get? b = some u → h'.get? b = some u)
    (ho : ∀ b, H b = some (.own a) → H' b = some (.own a)) (ht : ∀ b xs, H b = some (.tup xs) → H' b = some (.tup xs)) : ObjOk P w H' h' a o := by
  induction o with
  | lst xs => obtain ⟨z, its, n, r, e⟩ := x; exact ⟨z, its, n, r, k _ _ (.inl rfl) e⟩
  | tup xs => obtain ⟨z, its, r, ob, e, c⟩ := x; exact ⟨z, its, r, ob, k _ _ (.inl rfl) e, c⟩
  | dK kvs => obtain ⟨z, y, vs, r, ob, es, ep, e, c⟩ := x; exact ⟨z, y, vs, r, ob, es, ep, k _ _ (.inl rfl) e, c⟩
  | dT kvs =>
    obtain ⟨z, y, xs, r, ob, es, ep, e, c⟩ := x
    exact ⟨z, y, xs, Paired.mapP r fun p q z => ⟨z.1, ht _ _ z.2.1, z.2.2⟩, ob, es, ep, k _ _ (.inl rfl) e, c⟩
  | set S n => obtain ⟨ob, es, ep, t, e, c⟩ := x; exact ⟨ob, es, ep, t, k _ _ (.inl rfl) e, c⟩
  | ins C dx fs =>
    obtain ⟨d, z, ne, e, mA, ⟨od, es, ep, e2, c⟩, r⟩ := x
    exact ⟨ho _ d, z, ne, k _ _ (.inl rfl) e, mA, ⟨od, es, ep, k _ _ (.inr d) e2, c⟩, r⟩
  | own y => obtain ⟨ob, e⟩ := x; exact ⟨ob, k _ _ (.inl rfl) e⟩
  | xd fs => obtain ⟨mA, ⟨od, es, ep, e, c⟩, r⟩ := x; exact ⟨mA, ⟨od, es, ep, k _ _ (.inl rfl) e, c⟩, r⟩
  | rng lo hi => obtain ⟨t, u, v, e⟩ := x; exact ⟨t, u, v, k _ _ (.inl rfl) e⟩
  | frz ob u ih => obtain ⟨e, q⟩ := x; exact ⟨k _ _ (.inl rfl) e, ih q⟩
  | tbl ps =>
    have e : h.get? a = some { cls := .none, data := .fields ps } := x
    show h'.get? a = some { cls := .none, data := .fields ps }
    exact k a _ (.inl rfl) e
  | met f y =>
    have e : h.get? a = some (PySem.W.methodObj (.ref f) (.ref y)) := x
    show h'.get? a = some (PySem.W.methodObj (.ref f) (.ref y))
    exact k a _ (.inl rfl) e
  | ext φ => obtain ⟨p, ⟨o, e⟩, st⟩ := x; exact ⟨st _ _ p fun o q => k _ _ (.inl rfl) q, ⟨o, k _ _ (.inl rfl) e⟩, st⟩
theorem HOk.lt (x : HOk P w H h) (e : H a = some o) : a < h.objs.size := (x a o e).lt
theorem HOk.fresh (x : HOk P w H h) (e : h.objs.size ≤ a) : H a = none := by
  cases q : H a with
  | none => rfl
  | some u => exact absurd (Nat.lt_of_lt_of_le (x.lt q) e) (Nat.lt_irrefl _)
theorem HOk.kept (x : HOk P w H h) (k : ∀ b u, h.get? b = some u → h'.get? b = some u) : HOk P w H h' := fun a o e =>
  (x a o e).stay (fun b u _ q => k b u q) (fun _ q => q) fun _ _ q => q
theorem HOk.laid (x : HOk P w H h) (k : ∀ b u, h.get? b = some u → h'.get? b = some u) (hp : h.objs.size ≤ a) (new : ObjOk P w (upd H a o) h' a o) : HOk P w (upd H a o) h' := fun b u e => by
  have hn := x.fresh hp
  by_cases hb : b = a
  · subst hb; rw [upd_same] at e; cases e; exact new
  · rw [upd_ne hb] at e
    exact (x b u e).stay (fun c v _ q => k c v q) (fun c q => by rw [upd_ne (ne_of_none q hn)]; exact q) fun c xs q => by rw [upd_ne (ne_of_none q hn)]; exact q
end

noncomputable def Rd (H : Hp) (a : Addr) (u : HO) : Prop := H a = some u ∨ ∃ o, H a = some (.frz o u)
theorem Rd.ok {P : Program} {w : World} {H : Hp} {h : Heap} {a : Addr} {u : HO} (r : Rd H a u) (x : HOk P w H h) : ObjOk P w H h a u := by
  rcases r with r | ⟨o, r⟩
  · exact x a u r
  · obtain ⟨_, q⟩ := x a _ r
    exact q
noncomputable def Mut : Option HO → Prop
  | some (.lst _) => True
  | some (.dK _) => True
  | some (.dT _) => True
  | some (.set _ _) => True
  | some (.ins _ _ _) => True
  | some (.ext _) => True
  | _ => False
section
variable {P : Program} {w : World} {H : Hp} {h h' : Heap} {x e : Addr} {o' : HO}
theorem HOk.write (ok : HOk P w H h) (mu : Mut (H x)) (he : e = x ∨ H e = some (.own x)) (k : ∀ b u, b ≠ e → h.get? b = some u → h'.get? b = some u) (heo : ∃ u, h'.get? e = some u)
    (new : ObjOk P w (upd H x o') h' x o') : HOk P w (upd H x o') h' := fun b u q => by
  have nown : ∀ c y, H c = some (.own y) → c ≠ x := fun c y r z => by subst z; rw [r] at mu; exact mu
  have ntup : ∀ c xs, H c = some (.tup xs) → c ≠ x := fun c xs r z => by subst z; rw [r] at mu; exact mu
  by_cases hb : b = x
  · subst hb; rw [upd_same] at q; cases q; exact new
  · rw [upd_ne hb] at q
    by_cases hbe : b = e
    · have q' : H b = some (.own x) := by
        rcases he with z | z
        · exact absurd (hbe.trans z) hb
        · rw [hbe]; exact z
      rw [q] at q'; cases q'
      obtain ⟨v, hv⟩ := heo
      exact ⟨v, by rw [hbe]; exact hv⟩
    · refine (ok b u q).stay (fun c v hc r => k c v ?_ r) (fun c r => by rw [upd_ne (nown c b r)]; exact r) fun c xs r => by rw [upd_ne (ntup c xs r)]; exact r
      rcases hc with rfl | hc
      · exact hbe
      · rintro rfl
        rcases he with z | z
        · exact nown c b hc z
        · rw [hc] at z; cases z; exact hb rfl
end

structure Un (fs ex : List Addr) (H H' : Hp) (h h' : Heap) : Prop where
  keep : ∀ b o, h.get? b = some o → H b = none → b ∉ fs → b ∉ ex → h'.get? b = some o
  slot : ∀ b o, h.get? b = some o → H b = none → b ∈ fs → b ∉ ex → ∃ sl, h'.get? b = some { o with slots := sl }
  free : ∀ b o, h.get? b = some o → H b = none → b ∉ ex → H' b = none
  there : ∀ b o, h.get? b = some o → b ∉ ex → ∃ o', h'.get? b = some o'
  tups : ∀ b xs, H b = some (.tup xs) → H' b = some (.tup xs)
  frzs : ∀ b o u, H b = some (.frz o u) → H' b = some (.frz o u)
  tbls : ∀ b ps, H b = some (.tbl ps) → ∃ more, H' b = some (.tbl (ps ++ more))
section
variable {fs fs' ex ex' : List Addr} {H H1 H2 : Hp} {h h1 h2 h' : Heap} {a x e : Addr} {o : HO}
theorem Un.any (u : Un fs ex H H1 h h1) {b : Addr} {ob : Obj} (q : h.get? b = some ob) (n : H b = none) (hx : b ∉ ex) : ∃ sl, h1.get? b = some { ob with slots := sl } := by
  by_cases hb : b ∈ fs
  · exact u.slot b ob q n hb hx
  · exact ⟨ob.slots, u.keep b ob q n hb hx⟩
theorem Un.kept (k : ∀ b u, h.get? b = some u → h'.get? b = some u) : Un fs ex H H h h' :=
  ⟨fun b ob q _ _ _ => k b ob q, fun b ob q _ _ _ => ⟨ob.slots, k b ob q⟩, fun _ _ _ n _ => n, fun b ob q _ => ⟨ob, k b ob q⟩, fun _ _ q => q, fun _ _ _ q => q, fun _ ps q => ⟨#[], by rw [q]; simp⟩⟩
theorem Un.refl : Un fs ex H H h h := Un.kept fun _ _ q => q
theorem Un.laid (k : ∀ b u, h.get? b = some u → h'.get? b = some u) (hp : h.objs.size ≤ a) (hn : H a = none) : Un fs ex H (upd H a o) h h' where
  keep := fun b u q _ _ _ => k b u q
  slot := fun b u q _ _ _ => ⟨u.slots, k b u q⟩
  free := fun b u q n _ => by rw [upd_ne (Nat.ne_of_lt (Nat.lt_of_lt_of_le (Heap.lt_size q) hp))]; exact n
  there := fun b u q _ => ⟨u, k b u q⟩
  tups := fun b xs q => by rw [upd_ne (ne_of_none q hn)]; exact q
  frzs := fun b u xs q => by rw [upd_ne (ne_of_none q hn)]; exact q
  tbls := fun b ps q => ⟨#[], by rw [upd_ne (ne_of_none q hn), q]; simp⟩
theorem Un.write (mu : Mut (H x)) (he : e = x ∨ H e = some (.own x)) (k : ∀ b u, b ≠ e → h.get? b = some u → h'.get? b = some u) (heo : ∃ u, h'.get? e = some u) : Un fs ex H (upd H x o) h h' := by
  have hx : ∀ b, H b = none → b ≠ x := fun b n z => by subst z; rw [n] at mu; exact mu
  have hb : ∀ b, H b = none → b ≠ e := fun b n z => by
    subst z
    rcases he with r | r
    · exact hx b n r
    · rw [n] at r; cases r
  have hm : ∀ b u, H b = some u → ¬ Mut (some u) → b ≠ x := fun b u q nm z => by subst z; rw [q] at mu; exact nm mu
  refine ⟨fun b u q n _ _ => k b u (hb b n) q, fun b u q n _ _ => ⟨u.slots, k b u (hb b n) q⟩, fun b u q n _ => by rw [upd_ne (hx b n)]; exact n, fun b u q _ => ?_,
    fun b xs q => by rw [upd_ne (hm b _ q fun z => z)]; exact q, fun b u xs q => by rw [upd_ne (hm b _ q fun z => z)]; exact q, fun b ps q => ⟨#[], by rw [upd_ne (hm b _ q fun z => z), q]; simp⟩⟩
  by_cases hbe : b = e
  · subst hbe; exact heo
  · exact ⟨u, k b u hbe q⟩
end

noncomputable def trk (h : Heap) (H : Hp) : List Addr := (List.range h.objs.size).filter fun a => (H a).isSome
noncomputable def hidT (h : Heap) (H : Hp) : Heap := PySem.W.hideAll h (trk h H)
theorem hidT_size (h : Heap) (H : Hp) : (hidT h H).objs.size = h.objs.size := PySem.W.hideAll_size _ _
theorem hidT_get {h : Heap} {H : Hp} {b : Addr} {o : Obj} (e : h.get? b = some o) (n : H b = none) : (hidT h H).get? b = some o :=
  PySem.W.hideAll_get _ e fun hm => by
    have q : (H b).isSome = true := (List.mem_filter.mp hm).2
    rw [n] at q; simp at q
theorem of_hidT {h : Heap} {H : Hp} {b : Addr} {o : Obj} (e : (hidT h H).get? b = some o) : h.get? b = some o ∧ H b = none := by
  have e' : h.get? b = some o := PySem.W.of_hideAll (trk h H) e
  refine ⟨e', ?_⟩
  cases q : H b with
  | none => rfl
  | some x =>
    have hm : b ∈ trk h H := List.mem_filter.mpr ⟨List.mem_range.mpr (Heap.lt_size e'), by simp [q]⟩
    have z : (hidT h H).get? b = none := PySem.W.hideAll_none (trk h H) hm
    rw [z] at e; cases e

end L2

namespace L2
open PySem PySem.Spec PyProof.Rows

structure Mod (K : PySem.W.Frag) (mg : Str → Option Value) (base : Heap) : Prop where
  kin : K.In base
  glob : base.Ns mainGlobals mg
  blt : ∃ mb, base.Ns builtinsNs mb ∧ ∀ x : Str, x ≠ "__name__" → mb x = bootBuiltins x
  nolimit : base.NoLimit

structure Cx where
  prog : Program
  w : World
  K : PySem.W.Frag
  mg : Str → Option Value
  base : Heap
  A : Around
  N : List Str
  s₀ : Shared
  H₀ : Hp
  env : Env
  outer : List Env
  stack : List Env
  ex : List Addr
  fn : Str → Bool
  calm : Bool
  pn : List (Addr × Obj)
  xe : Value → Shared → Prop
noncomputable def frs (l : List Env) : List Addr := l.filterMap (·.frame)
noncomputable abbrev Cx.fs (X : Cx) : List Addr := frs X.outer

noncomputable def Vis (sc : Scope) (x : Str) : Prop := sc.names.lookup x = some .local ∨ sc.names.lookup x = some .cell ∨ sc.names.lookup x = some .free
noncomputable def Loc (sc : Scope) (x : Str) : Prop := sc.names.lookup x = some .local ∨ sc.names.lookup x = some .cell
noncomputable def Look (env : Env) (h : Heap) (m : Str → Option Value) (x : Str) (u : Value) : Prop :=
  (env.kindOf x = some .local ∧ m x = some u) ∨ ((env.kindOf x = some .cell ∨ env.kindOf x = some .free) ∧ ∃ c, env.cells.lookup x = some c ∧ h.IsCell c (some u))

structure Cx.Ok (X : Cx) : Prop where
  mod : Mod X.K X.mg X.base
  kind : X.env.scope.kind = .function
  glob : X.env.globals = mainGlobals
  blt : X.env.builtins = builtinsNs
  above : X.s₀.heap.objs.size ≤ X.env.locals
  inj : ∀ x y c, X.env.cells.lookup x = some c → X.env.cells.lookup y = some c → x = y
  has : ∀ x, (X.env.kindOf x = some .cell ∨ X.env.kindOf x = some .free) → ∃ c, X.env.cells.lookup x = some c
  cab : ∀ x c, X.fn x = true → X.env.cells.lookup x = some c → X.s₀.heap.objs.size ≤ c
  hd : X.calm = true → X.A.handled = none
  frames : X.A.frames = some X.stack
  stk : X.stack = X.outer ∨ (X.stack = X.env :: X.outer ∧ X.env.frame = some X.env.locals)
  exf : ∀ b ∈ X.ex, b ≠ X.env.locals ∧ ∀ x c, X.env.cells.lookup x = some c → c ≠ b
  bs : ∀ b o, X.base.get? b = some o → X.s₀.heap.get? b = some o ∧ X.H₀ b = none
  bsz : X.base.objs.size ≤ X.s₀.heap.objs.size
  noex : ∀ b o, X.base.get? b = some o → b ∉ X.ex
  exfs : ∀ b ∈ X.ex, b ∉ X.fs
  funs : X.s₀.heap.FunFrames X.base X.outer
  frf : ∀ b ∈ X.fs, X.H₀ b = none

structure Inv (X : Cx) (pins : List (Addr × Obj)) (σ : List (Option V)) (H : Hp) (s : Shared) : Prop where
  ok : X.Ok
  os : s.os = X.s₀.os
  bare : AllBare s.gens
  base : Un X.fs X.ex X.H₀ H X.s₀.heap s.heap
  loc : ∃ m, s.heap.Ns X.env.locals m ∧ ∀ (i : Nat) (x : Str) (v : V), X.N[i]? = some x → σ[i]? = some (some v) → Vis X.env.scope x → ∃ u, RelV v u ∧ Look X.env s.heap m x u
  cell : ∀ x c, X.env.cells.lookup x = some c → ∃ v, s.heap.IsCell c v
  free : H X.env.locals = none
  freeC : ∀ x c, X.env.cells.lookup x = some c → H c = none
  pin : ∀ p ∈ X.pn ++ pins, s.heap.get? p.1 = some p.2 ∧ H p.1 = none ∧ p.1 ≠ X.env.locals ∧ p.1 ∉ X.fs ∧ ∀ v, p.2.data ≠ .cell v
  hok : HOk X.prog X.w H s.heap
  len : σ.length = X.N.length

section
variable {X : Cx} {pins : List (Addr × Obj)} {σ : List (Option V)} {H H' : Hp} {s : Shared} {h' : Heap}

theorem Cx.Ok.nofr (ok : X.Ok) {b : Addr} {o : Obj} (e : X.base.get? b = some o) : b ∉ X.fs := fun hb => by
  have := (ok.funs.mem hb).1
  rw [e] at this; cases this
theorem Inv.bs (I : Inv X pins σ H s) : ∀ b o, X.base.get? b = some o → s.heap.get? b = some o ∧ H b = none := fun b o e =>
  ⟨I.base.keep b o (I.ok.bs b o e).1 (I.ok.bs b o e).2 (I.ok.nofr e) (I.ok.noex b o e), I.base.free b o (I.ok.bs b o e).1 (I.ok.bs b o e).2 (I.ok.noex b o e)⟩
theorem Inv.bk (I : Inv X pins σ H s) : ∀ b o, X.base.get? b = some o → s.heap.get? b = some o := fun b o e => (I.bs b o e).1
theorem Inv.mod (I : Inv X pins σ H s) : Mod X.K X.mg X.base := I.ok.mod
theorem Inv.kIn (I : Inv X pins σ H s) : X.K.In s.heap := I.ok.mod.kin.keeps I.bk
theorem Inv.lt (I : Inv X pins σ H s) : X.env.locals < s.heap.objs.size := let ⟨_, hn, _⟩ := I.loc; hn.lt
theorem Inv.sz (I : Inv X pins σ H s) : X.s₀.heap.objs.size ≤ s.heap.objs.size := Nat.le_trans I.ok.above (Nat.le_of_lt I.lt)
theorem Inv.nofs (I : Inv X pins σ H s) {a : Addr} (h : s.heap.objs.size ≤ a) : a ∉ X.fs := fun hb => by
  obtain ⟨_, o, ho, _⟩ := I.ok.funs.mem hb
  exact absurd (Nat.lt_of_lt_of_le (Heap.lt_size ho) (Nat.le_trans I.sz h)) (Nat.lt_irrefl _)
theorem Inv.cne (I : Inv X pins σ H s) : ∀ x c, X.env.cells.lookup x = some c → c ≠ X.env.locals := fun x c e z => by
  obtain ⟨v, o, ho, hd⟩ := I.cell x c e
  obtain ⟨m, ⟨o', es, ep, ho', hd', _⟩, _⟩ := I.loc
  rw [z, ho'] at ho; cases ho; rw [hd'] at hd; cases hd
theorem Inv.funs (I : Inv X pins σ H s) : s.heap.FunFrames X.base X.outer := by
  have all : ∀ (l : List Env), (∀ b ∈ frs l, b ∈ X.fs) → X.s₀.heap.FunFrames X.base l → s.heap.FunFrames X.base l := by
    intro l
    induction l with
    | nil => intro _ _; trivial
    | cons env r ih =>
      intro hs hl
      obtain ⟨hk, ⟨L, o, hf, hn, ho, hd⟩, hr⟩ := hl
      have hL : L ∈ X.fs := hs L (by unfold frs; rw [List.filterMap_cons, hf]; exact List.mem_cons_self)
      obtain ⟨sl, e⟩ := I.base.slot L o ho (I.ok.frf L hL) hL fun z => I.ok.exfs L z hL
      exact ⟨hk, ⟨L, _, hf, hn, e, hd⟩, ih (fun b hb => hs b (by unfold frs; rw [List.filterMap_cons, hf]; exact List.mem_cons_of_mem _ hb)) hr⟩
  exact all X.outer (fun _ hb => hb) I.ok.funs

theorem Inv.stack (I : Inv X pins σ H s) : s.heap.FunFrames X.base X.stack := by
  rcases I.ok.stk with e | ⟨e, hf⟩
  · rw [e]; exact I.funs
  · rw [e]
    obtain ⟨m, hn, _⟩ := I.loc
    refine .cons (by rw [I.ok.kind]; decide) hf hn ?_ I.funs
    exact Heap.get?_none_of_le (Nat.le_trans I.ok.bsz I.ok.above)
theorem Inv.stkSub (I : Inv X pins σ H s) : ∀ b ∈ frs X.stack, b ∈ X.env.locals :: X.fs := fun b hb => by
  rcases I.ok.stk with e | ⟨e, hf⟩
  · rw [e] at hb; exact List.mem_cons_of_mem _ hb
  · rw [e] at hb
    unfold frs at hb
    rw [List.filterMap_cons, hf] at hb
    exact hb
theorem Inv.stkFree (I : Inv X pins σ H s) : ∀ b ∈ frs X.stack, H b = none := fun b hb => by
  rcases List.mem_cons.mp (I.stkSub b hb) with e | hb
  · rw [e]; exact I.free
  · obtain ⟨_, o, ho, _⟩ := I.ok.funs.mem hb
    exact I.base.free b o ho (I.ok.frf b hb) fun z => I.ok.exfs b z hb

theorem Inv.step {g' : Array GenState} {t' : Nat} {d' : Drawn} {ch : List Addr} (I : Inv X pins σ H s)
    (hch : ∀ b ∈ ch, (b ∈ X.ex ∨ X.s₀.heap.objs.size ≤ b) ∧ b ≠ X.env.locals ∧ (∀ x c, X.env.cells.lookup x = some c → c ≠ b) ∧ ∀ p ∈ X.pn ++ pins, p.1 ≠ b)
    (keep : ∀ b o, b ≠ X.env.locals → b ∉ X.fs → b ∉ ch → s.heap.get? b = some o → H b = none → h'.get? b = some o)
    (slot : ∀ b o, b ≠ X.env.locals → b ∈ X.fs → b ∉ ch → s.heap.get? b = some o → H b = none → ∃ sl, h'.get? b = some { o with slots := sl }) (free : ∀ b o, b ∉ ch → s.heap.get? b = some o → H b = none → H' b = none)
    (there : ∀ b o, b ∉ ch → s.heap.get? b = some o → ∃ o', h'.get? b = some o')
    (tups : ∀ b xs, H b = some (.tup xs) → H' b = some (.tup xs)) (frzs : ∀ b o u, H b = some (.frz o u) → H' b = some (.frz o u)) (tbls : ∀ b ps, H b = some (.tbl ps) → ∃ more, H' b = some (.tbl (ps ++ more)))
    (ns : ∀ m, s.heap.Ns X.env.locals m → h'.Ns X.env.locals m) (hok : HOk X.prog X.w H' h') (hg : AllBare g') :
    Inv X pins σ H' { s with heap := h', gens := g', drawn := d', toks := t' } := by
  have neL : ∀ b o, X.s₀.heap.get? b = some o → b ≠ X.env.locals := fun b o e => Nat.ne_of_lt (Nat.lt_of_lt_of_le (Heap.lt_size e) I.ok.above)
  have neC : ∀ b o, X.s₀.heap.get? b = some o → b ∉ X.ex → b ∉ ch := fun b o e hx hb => by
    rcases (hch b hb).1 with z | z
    · exact hx z
    · exact absurd (Nat.lt_of_lt_of_le (Heap.lt_size e) z) (Nat.lt_irrefl _)
  have cellK : ∀ x c, X.env.cells.lookup x = some c → ∀ v, s.heap.IsCell c v → h'.IsCell c v := fun x c e v ⟨o, ho, hd⟩ => by
    have nch : c ∉ ch := fun z => (hch c z).2.2.1 x c e rfl
    by_cases hc : c ∈ X.fs
    · obtain ⟨sl, q⟩ := slot c o (I.cne x c e) hc nch ho (I.freeC x c e)
      exact ⟨_, q, hd⟩
    · exact ⟨o, keep c o (I.cne x c e) hc nch ho (I.freeC x c e), hd⟩
  refine ⟨I.ok, I.os, hg, ⟨fun b o e n hb hx => ?_, fun b o e n hb hx => ?_, fun b o e n hx => ?_, fun b o e hx => ?_, fun b xs e => tups b xs (I.base.tups b xs e), fun b o xs e => frzs b o xs (I.base.frzs b o xs e), fun b ps e => ?_⟩, ?_, fun x c e => ?_, ?_, fun x c e => ?_, fun p hp => ?_, hok, I.len⟩
  · exact keep b o (neL b o e) hb (neC b o e hx) (I.base.keep b o e n hb hx) (I.base.free b o e n hx)
  · obtain ⟨sl, e1⟩ := I.base.slot b o e n hb hx
    obtain ⟨sl', e2⟩ := slot b _ (neL b o e) hb (neC b o e hx) e1 (I.base.free b o e n hx)
    exact ⟨sl', e2⟩
  · obtain ⟨o', e1⟩ := I.base.there b o e hx
    exact free b o' (neC b o e hx) e1 (I.base.free b o e n hx)
  · obtain ⟨o', e1⟩ := I.base.there b o e hx
    exact there b o' (neC b o e hx) e1
  · obtain ⟨m1, e1⟩ := I.base.tbls b ps e
    obtain ⟨m2, e2⟩ := tbls b _ e1
    exact ⟨m1 ++ m2, by rw [e2, Array.append_assoc]⟩
  · obtain ⟨m, hn, hl⟩ := I.loc
    refine ⟨m, ns m hn, fun i x v e1 e2 e3 => ?_⟩
    obtain ⟨u, r, l⟩ := hl i x v e1 e2 e3
    refine ⟨u, r, ?_⟩
    rcases l with l | ⟨k, c, e, z⟩
    · exact .inl l
    · exact .inr ⟨k, c, e, cellK x c e _ z⟩
  · obtain ⟨v, z⟩ := I.cell x c e
    exact ⟨v, cellK x c e v z⟩
  · obtain ⟨m, ⟨o, _, _, ho, _⟩, _⟩ := I.loc
    exact free _ o (fun z => (hch _ z).2.1 rfl) ho I.free
  · obtain ⟨v, o, ho, hd⟩ := I.cell x c e
    exact free c o (fun z => (hch c z).2.2.1 x c e rfl) ho (I.freeC x c e)
  · obtain ⟨e, n, ne, nf, d⟩ := I.pin p hp
    have nch : p.1 ∉ ch := fun z => (hch p.1 z).2.2.2 p hp rfl
    exact ⟨keep p.1 p.2 ne nf nch e n, free p.1 p.2 nch e n, ne, nf, d⟩
theorem Inv.un {t' : Nat} (I : Inv X pins σ H s) (u : Un X.fs [] H H' s.heap h') (hok : HOk X.prog X.w H' h') : Inv X pins σ H' { s with heap := h', toks := t' } := by
  obtain ⟨m, ⟨o, es, ep, ho, r⟩, _⟩ := id I.loc
  obtain ⟨sl, hL⟩ := u.any ho I.free (by simp)
  exact I.step (g' := s.gens) (d' := s.drawn) (ch := []) (fun _ z => nomatch z) (fun b o _ hb _ e n => u.keep b o e n hb (by simp)) (fun b o _ hb _ e n => u.slot b o e n hb (by simp)) (fun b o _ e n => u.free b o e n (by simp)) (fun b o _ e => u.there b o e (by simp)) u.tups u.frzs u.tbls (fun m' hm => by
    obtain ⟨o', es', ep', ho', r'⟩ := hm
    rw [ho] at ho'; cases ho'
    exact ⟨_, es', ep', hL, r'⟩) hok I.bare
theorem Inv.call {g' : Array GenState} {t' : Nat} {d' : Drawn} {ch : List Addr} (I : Inv X pins σ H s) (u : Un (frs X.stack) ch H H' s.heap h') (hok : HOk X.prog X.w H' h') (hg : AllBare g')
    (hch : ∀ b ∈ ch, (b ∈ X.ex ∨ X.s₀.heap.objs.size ≤ b) ∧ b ≠ X.env.locals ∧ (∀ x c, X.env.cells.lookup x = some c → c ≠ b) ∧ ∀ p ∈ X.pn ++ pins, p.1 ≠ b) :
    Inv X pins σ H' { s with heap := h', gens := g', drawn := d', toks := t' } := by
  obtain ⟨m, ⟨o, es, ep, ho, r⟩, _⟩ := id I.loc
  obtain ⟨sl, hL⟩ := u.any ho I.free fun z => (hch _ z).2.1 rfl
  exact I.step (ch := ch) hch (fun b o hL hb hc e n => u.keep b o e n (fun z => (List.mem_cons.mp (I.stkSub b z)).elim hL hb) hc) (fun b o _ _ hc e n => u.any e n hc) (fun b o hc e n => u.free b o e n hc) (fun b o hc e => u.there b o e hc) u.tups u.frzs u.tbls (fun m' hm => by
    obtain ⟨o', es', ep', ho', r'⟩ := hm
    rw [ho] at ho'; cases ho'
    exact ⟨_, es', ep', hL, r'⟩) hok hg
theorem Inv.turned {t' : Nat} {it : Addr} (I : Inv X pins σ H s) (k : ∀ b o, b ≠ it → s.heap.get? b = some o → h'.get? b = some o) (hn : H it = none) (hL : it ≠ X.env.locals)
    (h1 : it ∈ X.ex ∨ X.s₀.heap.objs.size ≤ it) (h2 : ∀ x c, X.env.cells.lookup x = some c → c ≠ it) (h3 : ∀ p ∈ X.pn ++ pins, p.1 ≠ it) : Inv X pins σ H { s with heap := h', toks := t' } := by
  have nit : ∀ b u, H b = some u → b ≠ it := fun b u e z => by rw [z, hn] at e; cases e
  refine I.step (g' := s.gens) (d' := s.drawn) (ch := [it]) (fun b hb => ?_) (fun b o _ _ hc e _ => k b o (fun z => hc (by simp [z])) e) (fun b o _ _ hc e _ => ⟨o.slots, k b o (fun z => hc (by simp [z])) e⟩) (fun _ _ _ _ n => n)
    (fun b o hc e => ⟨o, k b o (fun z => hc (by simp [z])) e⟩) (fun _ _ e => e) (fun _ _ _ e => e) (fun b ps e => ⟨#[], by rw [e]; simp⟩) (fun m hm => ?_) (fun b u e => ?_) I.bare
  · have e : b = it := by simpa using hb
    subst e
    exact ⟨h1, hL, h2, h3⟩
  · obtain ⟨o, es, ep, ho, r⟩ := hm
    exact ⟨o, es, ep, k _ o (Ne.symm hL) ho, r⟩
  · refine (I.hok b u e).stay (fun c v hc q => k c v ?_ q) (fun _ q => q) fun _ _ q => q
    rcases hc with z | z
    · rw [z]; exact nit b u e
    · exact nit c _ z
theorem Inv.tok (I : Inv X pins σ H s) (t : Nat) : Inv X pins σ H { s with toks := t } := I.un (h' := s.heap) (t' := t) Un.refl I.hok
theorem Inv.kept {t' : Nat} (I : Inv X pins σ H s) (k : ∀ b u, s.heap.get? b = some u → h'.get? b = some u) : Inv X pins σ H { s with heap := h', toks := t' } := I.un (Un.kept k) (I.hok.kept k)
theorem Inv.laid {a : Addr} {o : HO} {t' : Nat} (I : Inv X pins σ H s) (k : ∀ b u, s.heap.get? b = some u → h'.get? b = some u) (hp : s.heap.objs.size ≤ a) (new : ObjOk X.prog X.w (upd H a o) h' a o) :
    Inv X pins σ (upd H a o) { s with heap := h', toks := t' } := I.un (Un.laid k hp (I.hok.fresh hp)) (I.hok.laid k hp new)
theorem Inv.write {x e : Addr} {o : HO} {t' : Nat} (I : Inv X pins σ H s) (mu : Mut (H x)) (he : e = x ∨ H e = some (.own x)) (k : ∀ b u, b ≠ e → s.heap.get? b = some u → h'.get? b = some u) (heo : ∃ u, h'.get? e = some u)
    (new : ObjOk X.prog X.w (upd H x o) h' x o) : Inv X pins σ (upd H x o) { s with heap := h', toks := t' } := I.un (Un.write mu he k heo) (I.hok.write mu he k heo new)
theorem Inv.pins_of {pins' : List (Addr × Obj)} (I : Inv X pins σ H s) (h : ∀ p ∈ pins', s.heap.get? p.1 = some p.2 ∧ H p.1 = none ∧ p.1 ≠ X.env.locals ∧ p.1 ∉ X.fs ∧ ∀ v, p.2.data ≠ .cell v) : Inv X pins' σ H s :=
  ⟨I.ok, I.os, I.bare, I.base, I.loc, I.cell, I.free, I.freeC, fun p hp => (List.mem_append.mp hp).elim (fun z => I.pin p (List.mem_append_left _ z)) (h p), I.hok, I.len⟩

theorem nodup_ix {N : List Str} (hN : N.Nodup) {i j : Nat} {x : Str} (a : N[i]? = some x) (b : N[j]? = some x) : i = j := by
  obtain ⟨h1, e1⟩ := List.getElem?_eq_some_iff.mp a
  obtain ⟨h2, e2⟩ := List.getElem?_eq_some_iff.mp b
  exact (List.getElem_inj hN).mp (e1.trans e2.symm)

theorem store_ok2 {M : Model} {A : Around} {E : Value → Shared → Prop} {i : Nat} {x : Str} {v : V} {u : Value} {Q : Unit → Shared → Prop} (I : Inv X pins σ H s) (hN : X.N.Nodup) (hi : X.N[i]? = some x) (hx : Loc X.env.scope x) (r : RelV v u)
    (h : ∀ s', Inv X pins (σ.set i (some v)) H s' → (∃ a, Heap.SameBut a s.heap s'.heap ∧ (a = X.env.locals ∨ X.env.cells.lookup x = some a)) → Q () s') (hf : X.fn x = true ∨ X.env.scope.names.lookup x = some .local := by first | exact .inl rfl | exact .inr rfl | assumption) : wpAny M A (storeName X.env x u) Q E s := by
  obtain ⟨m, hn, hl⟩ := id I.loc
  have hcls : (X.env.scope.kind == .class || (X.env.scope.kind == .module && X.env.locals != X.env.globals)) = false := by rw [I.ok.kind]; rfl
  have hiσ : i < σ.length := by rw [I.len]; exact (List.getElem?_eq_some_iff.mp hi).1
  have cne := I.cne
  have tracked : ∀ {a : Addr} {h' : Heap}, (∃ o, s.heap.get? a = some o ∧ H a = none) → Heap.SameBut a s.heap h' → HOk X.prog X.w H h' := fun {a h'} ha hs b ob e => by
    obtain ⟨_, _, hfree⟩ := ha
    refine (I.hok b ob e).stay (fun c w' hc q => (hs.2 c ?_).trans q) (fun _ q => q) fun _ _ q => q
    rintro rfl
    rcases hc with rfl | hc
    · rw [hfree] at e; cases e
    · rw [hfree] at hc; cases hc
  rcases hx with hk | hk
  · refine wpAny_storeName_local hk hn (fun h' hn' hs => ?_) hcls
    obtain ⟨oL, _, _, hoL, _⟩ := id hn
    refine h _ ⟨I.ok, I.os, I.bare, ⟨fun b o e n hb hx => ?_, fun b o e n hb hx => ?_, I.base.free, fun b o e hx => ?_, I.base.tups, I.base.frzs, I.base.tbls⟩, ⟨_, hn', fun j y v' e1 e2 e3 => ?_⟩, fun y c e => ?_, I.free, I.freeC, fun p hp => ?_, tracked ⟨oL, hoL, I.free⟩ hs, by simpa using I.len⟩ ⟨_, hs, .inl rfl⟩
    · exact (hs.2 b (Nat.ne_of_lt (Nat.lt_of_lt_of_le (Heap.lt_size e) I.ok.above))).trans (I.base.keep b o e n hb hx)
    · obtain ⟨sl, e1⟩ := I.base.slot b o e n hb hx
      exact ⟨sl, (hs.2 b (Nat.ne_of_lt (Nat.lt_of_lt_of_le (Heap.lt_size e) I.ok.above))).trans e1⟩
    · obtain ⟨o', e1⟩ := I.base.there b o e hx
      exact ⟨o', (hs.2 b (Nat.ne_of_lt (Nat.lt_of_lt_of_le (Heap.lt_size e) I.ok.above))).trans e1⟩
    · by_cases hj : j = i
      · subst hj
        rw [hi] at e1; cases e1
        rw [List.getElem?_set_self hiσ] at e2
        cases e2
        exact ⟨u, r, .inl ⟨hk, by simp⟩⟩
      · rw [List.getElem?_set_ne (Ne.symm hj)] at e2
        obtain ⟨u', r', q⟩ := hl j y v' e1 e2 e3
        refine ⟨u', r', ?_⟩
        rcases q with ⟨k, e⟩ | ⟨k, c, e, z⟩
        · refine .inl ⟨k, ?_⟩
          have : y ≠ x := fun e => hj (nodup_ix hN e1 (e ▸ hi))
          simp [this, e]
        · exact .inr ⟨k, c, e, z.sameBut hs (cne y c e)⟩
    · obtain ⟨w', z⟩ := I.cell y c e
      exact ⟨w', z.sameBut hs (cne y c e)⟩
    · obtain ⟨e, n, ne, nf, d⟩ := I.pin p hp
      exact ⟨(hs.2 p.1 ne).trans e, n, ne, nf, d⟩
  · have hfn : X.fn x = true := by
      rcases hf with z | z
      · exact z
      · rw [z] at hk; cases hk
    obtain ⟨c, hc⟩ := I.ok.has x (.inl hk)
    obtain ⟨w', z⟩ := I.cell x c hc
    refine wpAny_storeName_cell I.ok.kind hk hc z (fun h' hc' hs => ?_)
    obtain ⟨oc, hoc, hocd⟩ := id z
    refine h { s with heap := h' } ⟨I.ok, I.os, I.bare, ⟨fun b o e n hb hx => ?_, fun b o e n hb hx => ?_, I.base.free, fun b o e hx => ?_, I.base.tups, I.base.frzs, I.base.tbls⟩, ⟨m, hn.sameBut hs (Ne.symm (cne x c hc)), fun j y v' e1 e2 e3 => ?_⟩, fun y c' e => ?_, I.free, I.freeC, fun p hp => ?_, tracked ⟨oc, hoc, I.freeC x c hc⟩ hs, by simpa using I.len⟩ ⟨c, hs, .inr hc⟩
    · exact (hs.2 b (Nat.ne_of_lt (Nat.lt_of_lt_of_le (Heap.lt_size e) (I.ok.cab x c hfn hc)))).trans (I.base.keep b o e n hb hx)
    · obtain ⟨sl, e1⟩ := I.base.slot b o e n hb hx
      exact ⟨sl, (hs.2 b (Nat.ne_of_lt (Nat.lt_of_lt_of_le (Heap.lt_size e) (I.ok.cab x c hfn hc)))).trans e1⟩
    · obtain ⟨o', e1⟩ := I.base.there b o e hx
      exact ⟨o', (hs.2 b (Nat.ne_of_lt (Nat.lt_of_lt_of_le (Heap.lt_size e) (I.ok.cab x c hfn hc)))).trans e1⟩
    · by_cases hj : j = i
      · subst hj
        rw [hi] at e1; cases e1
        rw [List.getElem?_set_self hiσ] at e2
        cases e2
        exact ⟨u, r, .inr ⟨.inl hk, c, hc, hc'⟩⟩
      · rw [List.getElem?_set_ne (Ne.symm hj)] at e2
        obtain ⟨u', r', q⟩ := hl j y v' e1 e2 e3
        refine ⟨u', r', ?_⟩
        rcases q with q | ⟨k, c', e, z'⟩
        · exact .inl q
        · refine .inr ⟨k, c', e, z'.sameBut hs ?_⟩
          rintro rfl
          exact hj (nodup_ix hN e1 (I.ok.inj _ _ _ e hc ▸ hi))
    · by_cases hcc : c' = c
      · subst hcc; exact ⟨_, hc'⟩
      · obtain ⟨w2, z2⟩ := I.cell y c' e
        exact ⟨w2, z2.sameBut hs hcc⟩
    · obtain ⟨e, n, ne, nf, d⟩ := I.pin p hp
      refine ⟨(hs.2 p.1 ?_).trans e, n, ne, nf, d⟩
      intro q
      rw [q, hoc] at e
      have q' : oc = p.2 := Option.some.inj e
      exact d w' (by rw [← q']; exact hocd)
theorem store_ok {M : Model} {A : Around} {E : Value → Shared → Prop} {i : Nat} {x : Str} {v : V} {u : Value} {Q : Unit → Shared → Prop} (I : Inv X pins σ H s) (hN : X.N.Nodup) (hi : X.N[i]? = some x) (hx : Loc X.env.scope x) (r : RelV v u)
    (h : ∀ s', Inv X pins (σ.set i (some v)) H s' → Q () s') (hf : X.fn x = true ∨ X.env.scope.names.lookup x = some .local := by first | exact .inl rfl | exact .inr rfl | assumption) : wpAny M A (storeName X.env x u) Q E s :=
  store_ok2 I hN hi hx r (fun s' I' _ => h s' I') hf
theorem Inv.call' {s' : Shared} {ch : List Addr} (I : Inv X pins σ H s) (ho : s'.os = s.os) (u : Un (frs X.stack) ch H H' s.heap s'.heap) (hok : HOk X.prog X.w H' s'.heap) (hg : AllBare s'.gens)
    (hch : ∀ b ∈ ch, (b ∈ X.ex ∨ X.s₀.heap.objs.size ≤ b) ∧ b ≠ X.env.locals ∧ (∀ x c, X.env.cells.lookup x = some c → c ≠ b) ∧ ∀ p ∈ X.pn ++ pins, p.1 ≠ b) : Inv X pins σ H' s' := by
  obtain ⟨h', g', d', t', o'⟩ := s'
  have e : o' = s.os := ho
  subst e
  exact I.call (g' := g') (t' := t') (d' := d') u hok hg hch
end

noncomputable abbrev XK := Value → Option Addr → Hp → Prop
noncomputable abbrev St := List (Option V)
noncomputable abbrev VK := V → Hp → Prop
noncomputable abbrev TE := St → Hp → VK → Prop
noncomputable abbrev TT := St → Hp → (Bool → Hp → Prop) → Prop
noncomputable abbrev TA := St → Hp → (List V → Hp → Prop) → Prop
structure Ends where
  nx : St → Hp → Prop
  rt : VK
  bk : St → Hp → Prop := fun _ _ => False
  ct : St → Hp → Prop := fun _ _ => False
noncomputable abbrev TS := Ends → St → Hp → Prop

noncomputable def EP (X : Cx) (pins : List (Addr × Obj)) (σ : St) (Q : VK) (u : Value) (s' : Shared) : Prop := ∃ v H', Inv X pins σ H' s' ∧ RelV v u ∧ Q v H'
noncomputable def TP (X : Cx) (pins : List (Addr × Obj)) (σ : St) (Q : Bool → Hp → Prop) (b : Bool) (s' : Shared) : Prop := ∃ H', Inv X pins σ H' s' ∧ Q b H'
noncomputable def AP (X : Cx) (pins : List (Addr × Obj)) (σ : St) (Q : List V → Hp → Prop) (us : List Value) (s' : Shared) : Prop := ∃ vs H', Inv X pins σ H' s' ∧ Vals vs us ∧ Q vs H'
noncomputable def SP (X : Cx) (pins : List (Addr × Obj)) (D : Ends) (f : Flow) (s' : Shared) : Prop :=
  match f with
  | .next => ∃ σ' H', Inv X pins σ' H' s' ∧ D.nx σ' H'
  | .brk => ∃ σ' H', Inv X pins σ' H' s' ∧ D.bk σ' H'
  | .cont => ∃ σ' H', Inv X pins σ' H' s' ∧ D.ct σ' H'
  | .ret u => ∃ v σ' H', Inv X pins σ' H' s' ∧ RelV v u ∧ D.rt v H'

noncomputable def PE (X : Cx) (e : Expr) (t : TE) : Prop :=
  ∀ (pins : List (Addr × Obj)) (s : Shared) (σ : St) (H : Hp) (Q : VK), Inv X pins σ H s → t σ H Q → wpAny (model X.prog X.w) X.A (eval e X.env) (EP X pins σ Q) X.xe s
noncomputable def PT (X : Cx) (e : Expr) (t : TT) : Prop :=
  ∀ (pins : List (Addr × Obj)) (s : Shared) (σ : St) (H : Hp) (Q : Bool → Hp → Prop), Inv X pins σ H s → t σ H Q → wpAny (model X.prog X.w) X.A (isTrue e X.env (eval e X.env)) (TP X pins σ Q) X.xe s
noncomputable def PW (X : Cx) (e : Expr) (t : TT) : Prop :=
  ∀ (whole : Sem Value) (pins : List (Addr × Obj)) (s : Shared) (σ : St) (H : Hp) (Q : Bool → Hp → Prop), Inv X pins σ H s → t σ H Q → wpAny (model X.prog X.w) X.A (isTrue e X.env whole) (TP X pins σ Q) X.xe s
theorem PW.pt {X : Cx} {e : Expr} {t : TT} (h : PW X e t) : PT X e t := h _
noncomputable def PA (X : Cx) (es : List Expr) (t : TA) : Prop :=
  ∀ (pos : Pos) (pins : List (Addr × Obj)) (s : Shared) (σ : St) (H : Hp) (Q : List V → Hp → Prop), Inv X pins σ H s → t σ H Q → wpAny (model X.prog X.w) X.A (spliced (backTo pos (starEach es X.env))) (AP X pins σ Q) X.xe s
noncomputable def PS (X : Cx) (st : Stmt) (t : TS) : Prop :=
  ∀ (pins : List (Addr × Obj)) (s : Shared) (σ : St) (H : Hp) (D : Ends), Inv X pins σ H s → t D σ H → wpAny (model X.prog X.w) X.A (exec st X.env) (SP X pins D) X.xe s
noncomputable def PSs (X : Cx) (st : List Stmt) (t : TS) : Prop :=
  ∀ (pins : List (Addr × Obj)) (s : Shared) (σ : St) (H : Hp) (D : Ends), Inv X pins σ H s → t D σ H → wpAny (model X.prog X.w) X.A (execs st X.env) (SP X pins D) X.xe s
theorem thn {α : Type} {t : Sem α} {Q Q' : α → Shared → Prop} {M : Model} {A : Around} {E : Value → Shared → Prop} {s : Shared} (h : wpAny M A t Q E s) (hQ : ∀ a s, Q a s → Q' a s) : wpAny M A t Q' E s := wpAny_mono h hQ fun _ _ x => x
end L2

namespace L2
open PySem PySem.Spec PyProof.Rows
section
variable {X : Cx}

noncomputable def tVar (i : Nat) : TE := fun σ H Q => ∃ v, σ[i]? = some (some v) ∧ Q v H
noncomputable def tC (v : V) : TE := fun _ H Q => Q v H
theorem pe_var {i : Nat} {x : Str} {pos : Pos} (hN : X.N[i]? = some x) (hv : Vis X.env.scope x) (hd : (x == ("__debug__" : Str)) = false := by decide) (hcd : (x == ("__classdict__" : Str)) = false := by decide) : PE X (.Name x pos) (tVar i) := by
  intro pins s σ H Q I h
  obtain ⟨v, e, h⟩ := h
  obtain ⟨m, hn, hl⟩ := I.loc
  obtain ⟨u, r, l⟩ := hl i x v hN e hv
  have fin : EP X pins σ Q u s := ⟨v, H, I, r, h⟩
  rcases l with ⟨hk, hm⟩ | ⟨hk, c, hc, hcell⟩
  · exact wpAny_Name (wpAny_loadName_local I.ok.kind hk hn hm fin) hd
  · rcases hk with hk | hk
    · exact wpAny_Name (wpAny_loadName_cell I.ok.kind hk hc hcell fin) hd
    · exact wpAny_Name (wpAny_loadName_free I.ok.kind hk hc hcell fin hcd) hd
theorem pe_int {i j pos} : PE X (.Constant (.int i) j pos) (tC (.int i)) := fun _ _ _ H _ I h => wpAny_Constant_int ⟨.int i, H, I.tok _, ⟨_, rfl⟩, h⟩
theorem pe_bl {b j pos} : PE X (.Constant (.bool b) j pos) (tC (.bl b)) := fun _ _ _ H _ I h => Constant_bool ⟨.bl b, H, I, rfl, h⟩
theorem pe_non {j pos} : PE X (.Constant .none j pos) (tC .non) := fun _ _ _ H _ I h => Constant_none ⟨.non, H, I, rfl, h⟩
theorem pe_str {x j pos} : PE X (.Constant (.str x) j pos) (tC (.str x)) := fun _ _ _ H _ I h => Calls.Constant_str ⟨.str x, H, I.tok _, ⟨_, rfl⟩, h⟩

noncomputable def Gl (X : Cx) (x : Str) : Prop := X.env.kindOf x = some .globalImplicit
theorem ld_glob {E : Value → Shared → Prop} {pins : List (Addr × Obj)} {s : Shared} {σ : St} {H : Hp} {x : Str} {u : Value} {pos : Pos} {Q : Value → Shared → Prop} (I : Inv X pins σ H s) (hg : Gl X x) (hm : X.mg x = some u) (h : Q u s)
    (hd : (x == ("__debug__" : Str)) = false := by decide) : wpAny (model X.prog X.w) X.A (eval (.Name x pos) X.env) Q E s :=
  Calls.Name_function_global I.ok.kind hg (Calls.loadGlobal_global (by rw [I.ok.glob]; exact I.mod.glob.keeps I.bk) hm h) hd
theorem ld_blt {E : Value → Shared → Prop} {pins : List (Addr × Obj)} {s : Shared} {σ : St} {H : Hp} {x : Str} {u : Value} {pos : Pos} {Q : Value → Shared → Prop} (I : Inv X pins σ H s) (hg : Gl X x) (hm : X.mg x = none) (hv : bootBuiltins x = some u) (h : Q u s)
    (hn : x ≠ "__name__" := by decide) (hd : (x == ("__debug__" : Str)) = false := by decide) : wpAny (model X.prog X.w) X.A (eval (.Name x pos) X.env) Q E s := by
  obtain ⟨mb, h1, h2⟩ := I.mod.blt
  exact Calls.Name_function_global I.ok.kind hg (Calls.loadGlobal_builtin (by rw [I.ok.glob]; exact I.mod.glob.keeps I.bk) hm (by rw [I.ok.blt]; exact h1.keeps I.bk) ((h2 x hn).trans hv) h) hd
theorem pe_glob {x : Str} {v : V} {u : Value} {pos : Pos} (hg : Gl X x) (hm : X.mg x = some u) (r : RelV v u) (hd : (x == ("__debug__" : Str)) = false := by decide) : PE X (.Name x pos) (tC v) :=
  fun _ _ _ H _ I h => ld_glob I hg hm ⟨v, H, I, r, h⟩ hd
theorem pe_bltn {x : Str} {v : V} {u : Value} {pos : Pos} (hg : Gl X x) (hm : X.mg x = none) (hv : bootBuiltins x = some u) (r : RelV v u) (hn : x ≠ "__name__" := by decide) (hd : (x == ("__debug__" : Str)) = false := by decide) : PE X (.Name x pos) (tC v) :=
  fun _ _ _ H _ I h => ld_blt I hg hm hv ⟨v, H, I, r, h⟩ hn hd

variable {a b : Expr} {ta tb : TE} {pos : Pos}
noncomputable def tB (t : TE) : TT := fun σ H Q => t σ H fun x H1 => ∃ c, x = .bl c ∧ Q c H1
theorem pt_val {e : Expr} {t : TE} (h : PE X e t) (he : ∀ whole, isTrue e X.env whole = (do let v ← whole; standAt e.pos; holding [v] (truthy v)) := by intro _; rfl) : PT X e (tB t) := by
  intro pins s σ H Q I hw
  refine isTrue_plain (thn (h pins s σ H _ I hw) fun v s1 ⟨x, H1, I1, r1, q1⟩ => ?_) (he _)
  obtain ⟨d, rfl, q⟩ := q1
  cases r1
  exact wpAny_truthy_bool ⟨H1, I1, q⟩

variable {tA tB' : TT} {rest : List Expr}
noncomputable def tAnd (t u : TT) : TT := fun σ H Q => t σ H fun c H1 => if c = true then u σ H1 Q else Q false H1
noncomputable def tOr (t u : TT) : TT := fun σ H Q => t σ H fun c H1 => if c = true then Q true H1 else u σ H1 Q
noncomputable def tNot (t : TT) : TT := fun σ H Q => t σ H fun c H1 => Q (!c) H1
theorem pw_and1 (ha : PT X a tA) : PW X (.BoolOp .And [a] pos) tA := by
  intro wh pins s σ H Q I h
  refine isTrue_and (thn (ha pins s σ H Q I h) fun c s1 e => ?_)
  cases c with
  | true => exact isTrue_and_nil e
  | false => exact e
theorem pw_or1 (ha : PT X a tA) : PW X (.BoolOp .Or [a] pos) tA := by
  intro wh pins s σ H Q I h
  refine isTrue_or (thn (ha pins s σ H Q I h) fun c s1 e => ?_)
  cases c with
  | false => exact isTrue_or_nil e
  | true => exact e
theorem pw_and (ha : PT X a tA) (hb : PW X (.BoolOp .And (b :: rest) pos) tB') : PW X (.BoolOp .And (a :: b :: rest) pos) (tAnd tA tB') := by
  intro wh pins s σ H Q I h
  refine isTrue_and (thn (ha pins s σ H _ I h) fun c s1 ⟨H1, I1, q1⟩ => ?_)
  cases c with
  | true => exact hb wh pins s1 σ H1 Q I1 q1
  | false => exact ⟨H1, I1, q1⟩
theorem pw_or (ha : PT X a tA) (hb : PW X (.BoolOp .Or (b :: rest) pos) tB') : PW X (.BoolOp .Or (a :: b :: rest) pos) (tOr tA tB') := by
  intro wh pins s σ H Q I h
  refine isTrue_or (thn (ha pins s σ H _ I h) fun c s1 ⟨H1, I1, q1⟩ => ?_)
  cases c with
  | true => exact ⟨H1, I1, q1⟩
  | false => exact hb wh pins s1 σ H1 Q I1 q1
theorem pt_not (ha : PT X a tA) : PT X (.UnaryOp .Not a pos) (tNot tA) := by
  intro pins s σ H Q I h
  exact isTrue_not (ha pins s σ H (fun c H1 => Q (!c) H1) I h)
noncomputable def tAndV (ta tb : TE) : TE := fun σ H Q => ta σ H fun x H1 => ∃ c, x = .bl c ∧ if c = true then tb σ H1 Q else Q (.bl false) H1
noncomputable def tNotV (ta : TE) : TE := fun σ H Q => ta σ H fun x H1 => ∃ c, x = .bl c ∧ Q (.bl (!c)) H1
theorem pe_one {op} {t : TE} (h : PE X a t) : PE X (.BoolOp op [a] pos) t := fun pins s σ H Q I hw => BoolOp_one (h pins s σ H Q I hw)
theorem pe_and (ha : PE X a ta) (hb : PE X (.BoolOp .And (b :: rest) pos) tb) : PE X (.BoolOp .And (a :: b :: rest) pos) (tAndV ta tb) := by
  intro pins s σ H Q I h
  refine BoolOp_and (thn (ha pins s σ H _ I h) fun v s1 ⟨x, H1, I1, r1, q1⟩ => ?_)
  obtain ⟨c, rfl, q1⟩ := q1
  cases r1
  refine wpAny_truthy_bool ?_
  cases c with
  | true => exact hb pins s1 σ H1 Q I1 q1
  | false => exact ⟨.bl false, H1, I1, rfl, q1⟩
theorem pe_not (ha : PE X a ta) : PE X (.UnaryOp .Not a pos) (tNotV ta) := by
  intro pins s σ H Q I h
  refine UnaryOp_ (thn (ha pins s σ H _ I h) fun v s1 ⟨x, H1, I1, r1, q1⟩ => ?_)
  obtain ⟨c, rfl, q1⟩ := q1
  cases r1
  exact not_of (wpAny_truthy_bool ⟨.bl (!c), H1, I1, rfl, q1⟩)
noncomputable def tIf (t : TT) (ta tb : TE) : TE := fun σ H Q => t σ H fun c H1 => if c = true then ta σ H1 Q else tb σ H1 Q
theorem pe_ifExp {c : Expr} (hc : PT X c tA) (ha : PE X a ta) (hb : PE X b tb) : PE X (.IfExp c a b pos) (tIf tA ta tb) := by
  intro pins s σ H Q I h
  refine wpAny_IfExp (thn (hc pins s σ H _ I h) fun d s1 ⟨H1, I1, q1⟩ => ?_)
  cases d with
  | true => exact ha pins s1 σ H1 Q I1 q1
  | false => exact hb pins s1 σ H1 Q I1 q1
end
end L2

namespace L2
open PySem PySem.Spec PyProof.Rows

noncomputable def SqL (K : PySem.W.Frag) (H : Hp) (a : Addr) (xs : List V) : Prop :=
  Rd H a (.lst xs) ∨
    ∃ (o : Obj) (its : Array Value) (n : Nat), K.lookup a = some o ∧ o.cls = .type "list" ∧ o.dict = none ∧ o.data = .seq its n ∧ its.size ≤ sizeLine ∧ Vals xs its.toList
noncomputable def SqT (K : PySem.W.Frag) (H : Hp) (a : Addr) (xs : List V) : Prop :=
  Rd H a (.tup xs) ∨
    ∃ (o : Obj) (its : Array Value) (n : Nat), K.lookup a = some o ∧ o.cls = .type "tuple" ∧ o.data = .seq its n ∧ its.size ≤ sizeLine ∧ Vals xs its.toList
noncomputable def absV : Value → Option V
  | .none => some .non
  | .bool b => some (.bl b)
  | .int i _ => some (.int i)
  | .str x _ => some (.str x)
  | .bytes b _ => some (.byt b)
  | .float b _ => some (.flt b)
  | .ref a => some (.ref a)
  | .type n => some (.ty n)
  | _ => none
theorem RelV.abs {x : V} {u : Value} (r : RelV x u) : absV u = some x := by
  cases x with
  | non => cases r; rfl
  | bl _ => cases r; rfl
  | int _ => obtain ⟨t, rfl⟩ := r; rfl
  | str _ => obtain ⟨t, rfl⟩ := r; rfl
  | byt _ => obtain ⟨t, rfl⟩ := r; rfl
  | flt _ => obtain ⟨t, rfl⟩ := r; rfl
  | ref _ => cases r; rfl
  | ty _ => cases r; rfl
theorem RelV.inj {x y : V} {u : Value} (r : RelV x u) (q : RelV y u) : x = y := Option.some.inj (r.abs.symm.trans q.abs)
theorem Vals.inj : ∀ {xs ys : List V} {us : List Value}, Vals xs us → Vals ys us → xs = ys
  | _, _, _, .nil, .nil => rfl
  | _, _, _, .cons r t, .cons r' t' => by rw [r.inj r', Vals.inj t t']
section
variable {X : Cx} {pins : List (Addr × Obj)} {σ : St} {H : Hp} {s : Shared} {a : Addr} {xs ys : List V}
theorem SqL.of {K : PySem.W.Frag} (h : H a = some (.lst xs)) : SqL K H a xs := .inl (.inl h)
theorem SqT.of {K : PySem.W.Frag} (h : H a = some (.tup xs)) : SqT K H a xs := .inl (.inl h)
theorem Inv.list (I : Inv X pins σ H s) (h : SqL X.K H a xs) : ∃ its : List Value, Vals xs its ∧ PlainL s.heap a its.toArray ∧ xs.length ≤ sizeLine := by
  rcases h with h | ⟨o, its, n, hk, hc, hd, hs, hz, r⟩
  · obtain ⟨z, its, n, r, e⟩ := h.ok I.hok
    exact ⟨its, r, ⟨_, n, e, rfl, rfl, rfl⟩, z⟩
  · refine ⟨its.toList, r, ⟨o, n, I.kIn a o hk, hc, hd, by simpa using hs⟩, ?_⟩
    have e := r.length
    simp only [Array.length_toList] at e
    omega
theorem Inv.tuple (I : Inv X pins σ H s) (h : SqT X.K H a xs) : ∃ its : List Value, Vals xs its ∧ IsTup s.heap a its.toArray ∧ xs.length ≤ sizeLine := by
  rcases h with h | ⟨o, its, n, hk, hc, hs, hz, r⟩
  · obtain ⟨z, its, r, p⟩ := h.ok I.hok
    exact ⟨its, r, p, z⟩
  · refine ⟨its.toList, r, ⟨o, I.kIn a o hk, hc, n, by simpa using hs⟩, ?_⟩
    have e := r.length
    simp only [Array.length_toList] at e
    omega
theorem Inv.list_inj (I : Inv X pins σ H s) (h : SqL X.K H a xs) (h' : SqL X.K H a ys) : xs = ys := by
  obtain ⟨its, r, ⟨o, n, e, _, _, d⟩, _⟩ := I.list h
  obtain ⟨its', r', ⟨o', n', e', _, _, d'⟩, _⟩ := I.list h'
  rw [e] at e'; cases e'
  rw [d] at d'
  injection d' with d1 _
  have : its = its' := by simpa using congrArg Array.toList d1
  subst this
  exact r.inj r'
theorem Inv.tuple_inj (I : Inv X pins σ H s) (h : SqT X.K H a xs) (h' : SqT X.K H a ys) : xs = ys := by
  obtain ⟨its, r, ⟨o, e, _, n, d⟩, _⟩ := I.tuple h
  obtain ⟨its', r', ⟨o', e', _, n', d'⟩, _⟩ := I.tuple h'
  rw [e] at e'; cases e'
  rw [d] at d'
  injection d' with d1 _
  have : its = its' := by simpa using congrArg Array.toList d1
  subst this
  exact r.inj r'
end

noncomputable abbrev Cx.wish (X : Cx) (E : Value → Shared → Prop) : Cx := { X with xe := E }
noncomputable abbrev Cx.nox (X : Cx) : Cx := X.wish fun _ _ => False
theorem Cx.Ok.wish {X : Cx} (ok : X.Ok) (E : Value → Shared → Prop) : (X.wish E).Ok :=
  ⟨ok.mod, ok.kind, ok.glob, ok.blt, ok.above, ok.inj, ok.has, ok.cab, ok.hd, ok.frames, ok.stk, ok.exf, ok.bs, ok.bsz, ok.noex, ok.exfs, ok.funs, ok.frf⟩
theorem Cx.Ok.unwish {X : Cx} {E : Value → Shared → Prop} (ok : (X.wish E).Ok) : X.Ok :=
  ⟨ok.mod, ok.kind, ok.glob, ok.blt, ok.above, ok.inj, ok.has, ok.cab, ok.hd, ok.frames, ok.stk, ok.exf, ok.bs, ok.bsz, ok.noex, ok.exfs, ok.funs, ok.frf⟩
section
variable {X : Cx} {pins : List (Addr × Obj)} {σ : St} {H : Hp} {s : Shared} {E : Value → Shared → Prop}
theorem Inv.wish (I : Inv X pins σ H s) (E : Value → Shared → Prop) : Inv (X.wish E) pins σ H s := ⟨I.ok.wish E, I.os, I.bare, I.base, I.loc, I.cell, I.free, I.freeC, I.pin, I.hok, I.len⟩
theorem Inv.unwish (I : Inv (X.wish E) pins σ H s) : Inv X pins σ H s := ⟨I.ok.unwish, I.os, I.bare, I.base, I.loc, I.cell, I.free, I.freeC, I.pin, I.hok, I.len⟩
theorem SP.unwish {D : Ends} {f : Flow} {s' : Shared} (h : SP (X.wish E) pins D f s') : SP X pins D f s' := by
  cases f with
  | next => obtain ⟨σ', H', I, q⟩ := h; exact ⟨σ', H', I.unwish, q⟩
  | brk => obtain ⟨σ', H', I, q⟩ := h; exact ⟨σ', H', I.unwish, q⟩
  | cont => obtain ⟨σ', H', I, q⟩ := h; exact ⟨σ', H', I.unwish, q⟩
  | ret u => obtain ⟨v, σ', H', I, r, q⟩ := h; exact ⟨v, σ', H', I.unwish, r, q⟩
theorem PSs.nox {st : List Stmt} {t : TS} (h : PSs X.nox st t) : PSs X st t := fun pins s σ H D I hw =>
  wpAny_mono (h pins s σ H D (I.wish _) hw) (fun _ _ q => q.unwish) fun _ _ z => False.elim z
end

section
variable {X : Cx} {st : Stmt} {rest : List Stmt} {t u : TS} {e : Expr} {te : TE} {pos : Pos}
noncomputable def tNext : TS := fun D σ H => D.nx σ H
noncomputable def tSeq (t u : TS) : TS := fun D σ H => t { D with nx := u D } σ H
theorem pss_nil : PSs X [] tNext := fun _ _ σ H _ I h => wpAny_execs_nil ⟨σ, H, I, h⟩
theorem pss_cons (h1 : PS X st t) (h2 : PSs X rest u) : PSs X (st :: rest) (tSeq t u) := by
  intro pins s σ H D I h
  refine wpAny_execs_cons (thn (h1 pins s σ H { D with nx := u D } I h) fun f s1 q => ?_)
  cases f with
  | next =>
    obtain ⟨σ', H', I', q⟩ := q
    exact h2 pins s1 σ' H' D I' q
  | ret v => exact q
  | brk => exact q
  | cont => exact q
theorem pss_one (h1 : PS X st t) : PSs X [st] t := by
  intro pins s σ H D I h
  refine wpAny_execs_cons (thn (h1 pins s σ H D I h) fun f s1 q => ?_)
  cases f with
  | next => exact wpAny_execs_nil q
  | ret v => exact q
  | brk => exact q
  | cont => exact q
theorem Inv.quiet {pins : List (Addr × Obj)} {σ : St} {H : Hp} {s : Shared} (I : Inv X pins σ H s) : interactive X.env = false := by simp [interactive, I.ok.kind]
noncomputable def tDrop (te : TE) : TS := fun D σ H => te σ H fun _ H1 => D.nx σ H1
theorem ps_expr (he : PE X e te) (hs : swapsWith e none pos.line X.env = pure false := by rfl) : PS X (.Expr e pos) (tDrop te) := by
  intro pins s σ H D I h
  exact wpAny_Expr_any (thn (he pins s σ H _ I h) fun v s1 ⟨x, H1, I1, r1, q1⟩ => ⟨σ, H1, I1, q1⟩) I.quiet hs
noncomputable def tRet (te : TE) : TS := fun D σ H => te σ H D.rt
theorem ps_ret (he : PE X e te) : PS X (.Return (some e) pos) (tRet te) := by
  intro pins s σ H D I h
  exact wpAny_Return_some (thn (he pins s σ H _ I h) fun v s1 ⟨x, H1, I1, r1, q1⟩ => ⟨x, σ, H1, I1, r1, q1⟩)
noncomputable def tIfS (c : TT) (t u : TS) : TS := fun D σ H => c σ H fun b H1 => if b = true then t D σ H1 else u D σ H1
theorem ps_if {c : Expr} {a b : List Stmt} {tc : TT} (hc : PT X c tc) (ha : PSs X a t) (hb : PSs X b u) : PS X (.If c a b pos) (tIfS tc t u) := by
  intro pins s σ H D I h
  refine wpAny_If (thn (hc pins s σ H _ I h) fun d s1 ⟨H1, I1, q1⟩ => ?_)
  cases d with
  | true => exact ha pins s1 σ H1 D I1 q1
  | false => exact hb pins s1 σ H1 D I1 q1
noncomputable def tNever : TS := fun _ _ _ => False
theorem ps_never : PS X st tNever := fun _ _ _ _ _ _ h => h.elim
end

noncomputable abbrev TG := V → St → Hp → (St → Hp → Prop) → Prop
noncomputable abbrev TGs := List V → St → Hp → (St → Hp → Prop) → Prop
noncomputable def PG (X : Cx) (target : Expr) (t : TG) : Prop :=
  ∀ (pins : List (Addr × Obj)) (s : Shared) (σ : St) (H : Hp) (v : V) (u : Value) (Q : St → Hp → Prop), Inv X pins σ H s → RelV v u → t v σ H Q →
    wpAny (model X.prog X.w) X.A (assign target X.env u) (fun _ s' => ∃ σ' H', Inv X pins σ' H' s' ∧ Q σ' H') X.xe s
noncomputable def PGs (X : Cx) (ts : List Expr) (t : TGs) : Prop :=
  ∀ (pins : List (Addr × Obj)) (s : Shared) (σ : St) (H : Hp) (vs : List V) (us : List Value) (Q : St → Hp → Prop), Inv X pins σ H s → Vals vs us → t vs σ H Q →
    wpAny (model X.prog X.w) X.A (assignInOrder ((assignEach ts X.env).map (·.2)) us) (fun _ s' => ∃ σ' H', Inv X pins σ' H' s' ∧ Q σ' H') X.xe s
noncomputable abbrev TSet := V → V → V → Hp → (Hp → Prop) → Prop
noncomputable def PSet (X : Cx) (t : TSet) : Prop :=
  ∀ (pins : List (Addr × Obj)) (s : Shared) (σ : St) (H : Hp) (o i v : V) (ov iv u : Value) (Q : Hp → Prop), Inv X pins σ H s → RelV o ov → RelV i iv → RelV v u → t o i v H Q →
    wpAny (model X.prog X.w) X.A (setItem ov iv u) (fun _ s' => ∃ H', Inv X pins σ H' s' ∧ Q H') X.xe s
section
variable {X : Cx} {pos : Pos}
noncomputable def gName (i : Nat) : TG := fun v σ H Q => Q (σ.set i (some v)) H
theorem pg_name {i : Nat} {x : Str} (hN : X.N.Nodup) (hi : X.N[i]? = some x) (hx : Loc X.env.scope x) (hf : X.fn x = true ∨ X.env.scope.names.lookup x = some .local := by first | exact .inl rfl | exact .inr rfl | assumption) : PG X (.Name x pos) (gName i) := by
  intro pins s σ H v u Q I r h
  exact wpAny_assign_Name (store_ok I hN hi hx r (fun s' I' => ⟨_, H, I', h⟩) hf)
noncomputable def gNil : TGs := fun vs σ H Q => vs = [] ∧ Q σ H
noncomputable def gCons (t : TG) (u : TGs) : TGs := fun vs σ H Q => ∃ v r, vs = v :: r ∧ t v σ H fun σ' H' => u r σ' H' Q
theorem pgs_nil : PGs X [] gNil := by
  intro pins s σ H vs us Q I r h
  obtain ⟨e, h⟩ := h
  subst e
  cases r
  exact assignInOrder_nil ⟨σ, H, I, h⟩
theorem pgs_cons {e : Expr} {es : List Expr} {t : TG} {u : TGs} (h1 : PG X e t) (h2 : PGs X es u)
    (hs : (assignEach (e :: es) X.env).map (·.2) = assign e X.env :: (assignEach es X.env).map (·.2) := by rfl) : PGs X (e :: es) (gCons t u) := by
  intro pins s σ H vs us Q I r h
  obtain ⟨v, vr, e1, h⟩ := h
  subst e1
  cases r with
  | cons r rr =>
    rw [hs]
    refine assignInOrder_cons (thn (h1 pins s σ H _ _ _ I r h) fun _ s1 ⟨σ1, H1, I1, q1⟩ => ?_)
    exact h2 pins s1 σ1 H1 _ _ Q I1 rr q1
noncomputable def gTup (K : PySem.W.Frag) (n : Nat) (t : TGs) : TG := fun v σ H Q => ∃ a xs, v = .ref a ∧ SqT K H a xs ∧ xs.length = n ∧ t xs σ H Q
theorem pg_tup {es : List Expr} {k : Nat} {t : TGs} {n : Nat} (hc : X.calm = true) (h : PGs X es t)
    (hn : (assignEach es X.env).length = n := by rfl) (hst : (assignEach es X.env).findIdx? (·.1) = none := by rfl) : PG X (.Tuple es k pos) (gTup X.K n t) := by
  intro pins s σ H v u Q I r hw
  obtain ⟨a, xs, e1, hq, hl, hw⟩ := hw
  subst e1
  cases r
  obtain ⟨its, rv, ht, hz⟩ := I.tuple hq
  refine assign_Tuple_tuple (I.ok.hd hc) ht (by simp [hn, ← hl, rv.length]) hst fun h' hx => ?_
  have I1 : Inv X pins σ H { s with heap := h' } := I.kept (t' := s.toks) fun b o e => hx b o (Nat.ne_of_lt (Heap.lt_size e)) e
  exact h pins _ σ H xs _ Q I1 (by simpa using rv) hw
noncomputable def gSub (to ti : TE) (t : TSet) : TG := fun v σ H Q => to σ H fun o H1 => ti σ H1 fun i H2 => t o i v H2 fun H3 => Q σ H3
theorem pg_sub {o i : Expr} {to ti : TE} {t : TSet} (ho : PE X o to) (hi : PE X i ti) (hs : PSet X t)
    (ha : ∀ v, assign (.Subscript o i pos) X.env v = (do
      let ov ← holding [v] (eval o X.env)
      let iv ← holding [v, ov] (eval i X.env)
      standAt pos
      holding [v, ov, iv] (setItem ov iv v)
      release [v, ov, iv] []) := by intro _; rfl) : PG X (.Subscript o i pos) (gSub to ti t) := by
  intro pins s σ H v u Q I r h
  rw [ha]
  refine wpAny_bind (wpAny_holding (thn (ho pins s σ H _ I h) fun ov s1 ⟨x, H1, I1, r1, q1⟩ => ?_))
  refine wpAny_bind (wpAny_holding (thn (hi pins s1 σ H1 _ I1 q1) fun iv s2 ⟨y, H2, I2, r2, q2⟩ => ?_))
  refine wpAny_bind (wpAny_standAt (wpAny_bind (wpAny_holding (thn (hs pins s2 σ H2 x y v ov iv u _ I2 r1 r2 r q2) fun _ s3 ⟨H3, I3, q3⟩ => ?_))))
  exact wpAny_release ⟨σ, H3, I3, q3⟩
noncomputable def tAsg (te : TE) (g : TG) : TS := fun D σ H => te σ H fun x H1 => g x σ H1 D.nx
theorem ps_asg {tg e : Expr} {te : TE} {g : TG} (he : PE X e te) (hg : PG X tg g) (hs : swapsWithSole [tg] e pos.line X.env = pure false := by rfl) (hw : swappedStores [tg] e X.env = pure none := by rfl)
    (h1 : (assignEach [tg] X.env).map (·.2) = [assign tg X.env] := by rfl) : PS X (.Assign [tg] e pos) (tAsg te g) := by
  intro pins s σ H D I h
  refine wpAny_Assign_stores (thn (he pins s σ H _ I h) fun v s1 ⟨x, H1, I1, r1, q1⟩ => ?_) hs hw
  rw [h1]
  exact thn (hg pins s1 σ H1 x v _ I1 r1 q1) fun _ s2 q => q
theorem ps_set {i : Nat} {x : Str} {e : Expr} {te : TE} {pos' : Pos} (hN : X.N.Nodup) (hi : X.N[i]? = some x) (hx : Loc X.env.scope x) (he : PE X e te) (hs : swapsWith e (some (.Name x pos')) pos.line X.env = pure false := by rfl) (hf : X.fn x = true ∨ X.env.scope.names.lookup x = some .local := by first | exact .inl rfl | exact .inr rfl | assumption) :
    PS X (.Assign [.Name x pos'] e pos) (tAsg te (gName i)) := by
  intro pins s σ H D I h
  refine wpAny_Assign_Name (thn (he pins s σ H _ I h) fun v s1 ⟨y, H1, I1, r1, q1⟩ => ?_) hs
  exact store_ok I1 hN hi hx r1 (fun s2 I2 => ⟨_, H1, I2, q1⟩) hf
end

section
variable {X : Cx} {pos : Pos}
end

structure It where
  go : Nat → Hp → Prop
  yld : Nat → Hp → V → Hp → Prop
  stop : Nat → Hp → Prop
noncomputable def FpOk (X : Cx) (pins : List (Addr × Obj)) (H : Hp) (b : Addr) : Prop :=
  H b = none ∧ b ≠ X.env.locals ∧ b ∉ X.fs ∧ (b ∈ X.ex ∨ X.s₀.heap.objs.size ≤ b) ∧ (∀ x c, X.env.cells.lookup x = some c → c ≠ b) ∧ ∀ p ∈ X.pn ++ pins, p.1 ≠ b
theorem Inv.fpOk {X : Cx} {pins : List (Addr × Obj)} {σ : St} {H H' : Hp} {s : Shared} {b : Addr} (I : Inv X pins σ H s) (hb : s.heap.objs.size ≤ b) (hn : H' b = none) : FpOk X pins H' b := by
  refine ⟨hn, Nat.ne_of_gt (Nat.lt_of_lt_of_le I.lt hb), I.nofs hb, .inr (Nat.le_trans I.sz hb), fun x c e z => ?_, fun p hp z => ?_⟩
  · obtain ⟨v, q⟩ := I.cell x c e
    exact absurd (Nat.lt_of_lt_of_le q.lt (by rw [z]; exact hb)) (Nat.lt_irrefl _)
  · exact absurd (Nat.lt_of_lt_of_le (Heap.lt_size (I.pin p hp).1) (by rw [z]; exact hb)) (Nat.lt_irrefl _)
structure Turn (P : Program) (w : World) (K : PySem.W.Frag) (tg : Expr) (J : It) (fp : List Addr) (it : Addr) (tn : Nat → Heap → Prop) : Prop where
  mem : it ∈ fp
  obj : ∀ i h, tn i h → ∀ b ∈ fp, ∃ o, h.get? b = some o ∧ ∀ v, o.data ≠ .cell v
  keep : ∀ i h h', tn i h → (∀ b ∈ fp, ∀ o, h.get? b = some o → h'.get? b = some o) → tn i h'
  item : ∀ (X : Cx), X.prog = P → X.w = w → X.K = K → X.calm = true → ∀ (i : Nat) (pins : List (Addr × Obj)) (s : Shared) (σ : St) (H : Hp) (E : Value → Shared → Prop), Inv X pins σ H s → (∀ b ∈ fp, FpOk X pins H b) → tn i s.heap → J.go i H →
    wpAny (model P w) X.A (pyNext (.ref it)) (fun r s1 => ∃ u, r = some u ∧
      wpAny (model P w) X.A (letOwnedTupleGo tg (.ref it) u) (fun _ s2 => ∃ x H', Inv X pins σ H' s2 ∧ RelV x u ∧ J.yld i H x H' ∧ tn (i + 1) s2.heap ∧ ∀ b ∈ fp, H' b = none) E s1) E s
  done : ∀ (X : Cx), X.prog = P → X.w = w → X.K = K → X.calm = true → ∀ (i : Nat) (pins : List (Addr × Obj)) (s : Shared) (σ : St) (H : Hp) (E : Value → Shared → Prop), Inv X pins σ H s → (∀ b ∈ fp, FpOk X pins H b) → tn i s.heap → J.stop i H →
    wpAny (model P w) X.A (pyNext (.ref it)) (fun r s1 => r = none ∧ Inv X pins σ H s1) E s
  self : ∀ (A : Around) (i : Nat) (s : Shared) (Q : Value → Shared → Prop) (E : Value → Shared → Prop), tn i s.heap → Q (.ref it) s → wpAny (model P w) A (pyIter (.ref it)) Q E s
noncomputable abbrev TI := St → Hp → (It → Hp → Prop) → Prop
noncomputable def PIE (X : Cx) (pins : List (Addr × Obj)) (σ : St) (tg : Expr) (R : It → Hp → Prop) (itv : Value) (s2 : Shared) : Prop :=
  ∃ (it : Addr) (fp : List Addr) (tn : Nat → Heap → Prop) (J : It) (H' : Hp), itv = .ref it ∧ Inv X pins σ H' s2 ∧ Turn X.prog X.w X.K tg J fp it tn ∧ tn 0 s2.heap ∧ (∀ b ∈ fp, FpOk X pins H' b) ∧ R J H'
noncomputable def PI (X : Cx) (tg iter : Expr) (wi : TI) : Prop :=
  ∀ (pins : List (Addr × Obj)) (s : Shared) (σ : St) (H : Hp) (R : It → Hp → Prop), Inv X pins σ H s → wi σ H R →
    wpAny (model X.prog X.w) X.A (eval iter X.env) (fun v s1 => wpAny (model X.prog X.w) X.A (pyIter v) (PIE X pins σ tg R) X.xe s1) X.xe s

theorem go_of {M : Model} {A : Around} {E : Value → Shared → Prop} {s : Shared} {tg : Expr} {it : Addr} {u : Value} {o : Obj} {n : String} {vs : Array Value} {Q : Unit → Shared → Prop} (ho : s.heap.get? it = some o) (hc : o.cls = .type n) (hd : o.data = .fields vs)
    (hn : ["enumerate", "zip", "dict_itemiterator", "dict_reverseitemiterator", "odict_iterator", "itertools.zip_longest", "itertools.pairwise"].contains n = false) (hQ : Q () s) : wpAny M A (letOwnedTupleGo tg (.ref it) u) Q E s := by
  unfold letOwnedTupleGo
  cases tg <;> first
    | exact wpAny_pure hQ
    | (cases u <;> first
        | exact wpAny_pure hQ
        | (refine wpAny_bind (wpAny_load ho ?_)
           rw [hc, hd]
           show wpAny M A (if (["enumerate", "zip", "dict_itemiterator", "dict_reverseitemiterator", "odict_iterator", "itertools.zip_longest", "itertools.pairwise"].contains n && vs[0]? == some (rawInt _)) = true then _ else _) Q E s
           rw [if_neg (by intro h; rw [hn, Bool.false_and] at h; cases h)]
           exact wpAny_pure hQ))

noncomputable def Itl (K : PySem.W.Frag) (a : Addr) : It :=
  ⟨fun i H => ∃ xs x, SqL K H a xs ∧ xs[i]? = some x, fun i H x H' => H' = H ∧ ∀ xs, SqL K H a xs → xs[i]? = some x, fun i H => ∃ xs, SqL K H a xs ∧ xs.length ≤ i⟩
noncomputable def Itt (K : PySem.W.Frag) (a : Addr) : It :=
  ⟨fun i H => ∃ xs x, SqT K H a xs ∧ xs[i]? = some x, fun i H x H' => H' = H ∧ ∀ xs, SqT K H a xs → xs[i]? = some x, fun i H => ∃ xs, SqT K H a xs ∧ xs.length ≤ i⟩
noncomputable def Itr (lo : Int) (n : Nat) : It := ⟨fun i _ => i < n, fun i H x H' => H' = H ∧ x = .int (lo + i), fun i _ => n ≤ i⟩
theorem turn_list {P : Program} {w : World} {K : PySem.W.Frag} {tg : Expr} (a it : Addr) : Turn P w K tg (Itl K a) [it] it (fun i h => h.IsListIter it a i) where
  mem := by simp
  obj := fun i h st b hb => by
    have e : b = it := by simpa using hb
    subst e
    obtain ⟨o, e, c, d⟩ := st
    exact ⟨o, e, fun v z => by rw [d] at z; cases z⟩
  keep := fun i h h' st k => st.at fun o e => k it (by simp) o e
  item := by
    intro X hP hw hK hc i pins s σ H E I hf st hg
    subst hP hw hK
    obtain ⟨xs, x, hq, hx⟩ := hg
    obtain ⟨its, rv, p, hz⟩ := I.list hq
    obtain ⟨u, hu, ru⟩ := rv.get hx
    obtain ⟨f0, f1, f2, f3, f4, f5⟩ := hf it (by simp)
    refine wpAny_pyNext_list_item st p.isList (x := u) (by simpa using hu) fun h' st' sb => ?_
    have I1 : Inv X pins σ H { s with heap := h' } := I.turned (t' := s.toks) (fun b o hb e => (sb.2 b hb).trans e) f0 f1 f3 f4 f5
    obtain ⟨o, e, c, d⟩ := id st'
    exact ⟨u, rfl, go_of (s := { s with heap := h' }) e c d (by decide) ⟨x, H, I1, ru, ⟨rfl, fun ys hy => by rw [I.list_inj hy hq]; exact hx⟩, st', fun b hb => (hf b hb).1⟩⟩
  done := by
    intro X hP hw hK hc i pins s σ H E I hf st hg
    subst hP hw hK
    obtain ⟨xs, hq, hx⟩ := hg
    obtain ⟨its, rv, p, hz⟩ := I.list hq
    obtain ⟨f0, f1, f2, f3, f4, f5⟩ := hf it (by simp)
    have hl := rv.length
    exact wpAny_pyNext_list_end (I.ok.hd hc) st p.isList (by simp; omega) fun h' eb => ⟨rfl, I.turned (t' := s.toks) (fun b o hb e => eb b o hb e) f0 f1 f3 f4 f5⟩
  self := fun _ _ _ _ _ st h => wpAny_pyIter_listiter st h
theorem turn_tuple {P : Program} {w : World} {K : PySem.W.Frag} {tg : Expr} (a it : Addr) : Turn P w K tg (Itt K a) [it] it (fun i h => h.IsTupleIter it a i) where
  mem := by simp
  obj := fun i h st b hb => by
    have e : b = it := by simpa using hb
    subst e
    obtain ⟨o, e, c, d⟩ := st
    exact ⟨o, e, fun v z => by rw [d] at z; cases z⟩
  keep := fun i h h' st k => st.at fun o e => k it (by simp) o e
  item := by
    intro X hP hw hK hc i pins s σ H E I hf st hg
    subst hP hw hK
    obtain ⟨xs, x, hq, hx⟩ := hg
    obtain ⟨its, rv, p, hz⟩ := I.tuple hq
    obtain ⟨u, hu, ru⟩ := rv.get hx
    obtain ⟨f0, f1, f2, f3, f4, f5⟩ := hf it (by simp)
    refine wpAny_pyNext_tuple_item st (show s.heap.IsTuple a its.toArray from p) (x := u) (by simpa using hu) fun h' st' sb => ?_
    have I1 : Inv X pins σ H { s with heap := h' } := I.turned (t' := s.toks) (fun b o hb e => (sb.2 b hb).trans e) f0 f1 f3 f4 f5
    obtain ⟨o, e, c, d⟩ := id st'
    exact ⟨u, rfl, go_of (s := { s with heap := h' }) e c d (by decide) ⟨x, H, I1, ru, ⟨rfl, fun ys hy => by rw [I.tuple_inj hy hq]; exact hx⟩, st', fun b hb => (hf b hb).1⟩⟩
  done := by
    intro X hP hw hK hc i pins s σ H E I hf st hg
    subst hP hw hK
    obtain ⟨xs, hq, hx⟩ := hg
    obtain ⟨its, rv, p, hz⟩ := I.tuple hq
    obtain ⟨f0, f1, f2, f3, f4, f5⟩ := hf it (by simp)
    have hl := rv.length
    exact wpAny_pyNext_tuple_end (I.ok.hd hc) st (show s.heap.IsTuple a its.toArray from p) (by simp; omega) fun h' eb => ⟨rfl, I.turned (t' := s.toks) (fun b o hb e => eb b o hb e) f0 f1 f3 f4 f5⟩
  self := fun _ _ _ _ _ st h => wpAny_pyIter_tupleiter st h
theorem turn_range {P : Program} {w : World} {K : PySem.W.Frag} {tg : Expr} (it : Addr) (lo : Int) (n : Nat) : Turn P w K tg (Itr lo n) [it] it (fun i h => IsRangeIter h it (lo + (i : Nat) * 1) ((n : Int) - (i : Nat)) 1) where
  mem := by simp
  obj := fun i h st b hb => by
    have e : b = it := by simpa using hb
    subst e
    exact ⟨_, st, fun v z => by
      have z' : Data.fields _ = Data.cell v := z
      cases z'⟩
  keep := fun i h h' st k => k it (by simp) _ st
  item := by
    intro X hP hw hK hc i pins s σ H E I hf st hg
    subst hP hw hK
    obtain ⟨f0, f1, f2, f3, f4, f5⟩ := hf it (by simp)
    have W := Walks.range (prog := X.prog) (w := X.w) (I.ok.hd hc) it lo 1 n
    refine W.item i s _ _ hg st fun v h' tk hv st' kk => ?_
    obtain ⟨t, rfl⟩ := hv
    have I1 : Inv X pins σ H { s with heap := h', toks := tk } := I.turned (fun b o hb e => kk b o (by simpa using hb) e) f0 f1 f3 f4 f5
    refine ⟨_, rfl, go_of (s := { s with heap := h', toks := tk }) (n := "range_iterator") st' rfl rfl (by decide) ⟨.int (lo + i), H, I1, ⟨t, ?_⟩, ⟨rfl, rfl⟩, st', fun b hb => (hf b hb).1⟩⟩
    rw [Int.mul_one]
  done := by
    intro X hP hw hK hc i pins s σ H E I hf st hg
    subst hP hw hK
    obtain ⟨f0, f1, f2, f3, f4, f5⟩ := hf it (by simp)
    exact wpAny_pyNext_range_end (I.ok.hd hc) st (by have : n ≤ i := hg; omega) fun h' eb => ⟨rfl, I.turned (t' := s.toks) (fun b o hb e => eb b o hb e) f0 f1 f3 f4 f5⟩
  self := fun _ _ _ _ _ st h => wpAny_pyIter_rangeiter st h
end L2

namespace L2
open PySem PySem.Spec PyProof.Rows
section
variable {X : Cx} {tg : Expr}
noncomputable def iList (K : PySem.W.Frag) (tl : TE) : TI := fun σ H R => tl σ H fun x H1 => ∃ a, x = .ref a ∧ (∃ xs, SqL K H1 a xs) ∧ R (Itl K a) H1
noncomputable def iTup (K : PySem.W.Frag) (tl : TE) : TI := fun σ H R => tl σ H fun x H1 => ∃ a, x = .ref a ∧ (∃ xs, SqT K H1 a xs) ∧ R (Itt K a) H1
theorem pi_list {l : Expr} {tl : TE} (hl : PE X l tl) : PI X tg l (iList X.K tl) := by
  intro pins s σ H R I h
  refine thn (hl pins s σ H _ I h) fun v s1 ⟨x, H1, I1, r1, q1⟩ => ?_
  obtain ⟨a, e, ⟨xs, hq⟩, q⟩ := q1
  subst e
  cases r1
  obtain ⟨its, rv, p, hz⟩ := I1.list hq
  refine wpAny_pyIter_list p.isList ?_
  refine ⟨s1.heap.objs.size, [s1.heap.objs.size], _, _, H1, rfl, I1.kept (t' := s1.toks) fun b o e => Heap.get?_push_of_some _ e, turn_list a _, ⟨_, Heap.get?_push_size _ rfl, rfl, rfl⟩, fun b hb => ?_, q⟩
  have e : b = s1.heap.objs.size := by simpa using hb
  subst e
  exact I1.fpOk (Nat.le_refl _) (I1.hok.fresh (Nat.le_refl _))
theorem pi_tup {l : Expr} {tl : TE} (hl : PE X l tl) : PI X tg l (iTup X.K tl) := by
  intro pins s σ H R I h
  refine thn (hl pins s σ H _ I h) fun v s1 ⟨x, H1, I1, r1, q1⟩ => ?_
  obtain ⟨a, e, ⟨xs, hq⟩, q⟩ := q1
  subst e
  cases r1
  obtain ⟨its, rv, p, hz⟩ := I1.tuple hq
  refine wpAny_pyIter_tuple (show s1.heap.IsTuple a its.toArray from p) ?_
  refine ⟨s1.heap.objs.size, [s1.heap.objs.size], _, _, H1, rfl, I1.kept (t' := s1.toks) fun b o e => Heap.get?_push_of_some _ e, turn_tuple a _, ⟨_, Heap.get?_push_size _ rfl, rfl, rfl⟩, fun b hb => ?_, q⟩
  have e : b = s1.heap.objs.size := by simpa using hb
  subst e
  exact I1.fpOk (Nat.le_refl _) (I1.hok.fresh (Nat.le_refl _))
theorem range_it {pins : List (Addr × Obj)} {σ : St} {H : Hp} {s : Shared} {R : It → Hp → Prop} {E : Value → Shared → Prop} {lo hi : Int} {t u v : Tok} {tk : Nat} (I : Inv X pins σ H s) (h1 : -(2 ^ 62) ≤ lo) (h2 : lo < 2 ^ 62) (h3 : -(2 ^ 62) ≤ hi) (h4 : hi < 2 ^ 62)
    (q : R (Itr lo (hi - lo).toNat) H) : wpAny (model X.prog X.w) X.A (pyIter (.ref s.heap.objs.size)) (PIE X pins σ tg R) E { s with heap := s.heap.push { cls := .type "range", data := .fields #[.int lo t, .int hi u, .int 1 v] }, toks := tk } := by
  refine wpAny_pyIter_range (IsRange.new ..) (small_one h1 h2 h3 h4) ?_
  have I1 : Inv X pins σ H { s with heap := s.heap.push { cls := .type "range", data := .fields #[.int lo t, .int hi u, .int 1 v] }, toks := tk } := I.kept fun b o e => Heap.get?_push_of_some _ e
  refine ⟨(s.heap.push { cls := .type "range", data := .fields #[.int lo t, .int hi u, .int 1 v] }).objs.size, [(s.heap.push { cls := .type "range", data := .fields #[.int lo t, .int hi u, .int 1 v] }).objs.size], _, _, H, rfl,
    I1.kept (t' := tk) fun b o e => Heap.get?_push_of_some _ e, turn_range _ lo (hi - lo).toNat, ?_, fun b hb => ?_, q⟩
  · have e1 : lo + ((0 : Nat) : Int) * 1 = lo := by simp
    have e2 : (((hi - lo).toNat : Nat) : Int) - ((0 : Nat) : Int) = Builtin.Range.rangeSize lo hi 1 := by rw [rangeSize_one]; split <;> omega
    show IsRangeIter _ _ (lo + ((0 : Nat) : Int) * 1) ((((hi - lo).toNat : Nat) : Int) - ((0 : Nat) : Int)) 1
    rw [e1, e2]
    exact Heap.get?_push_size _ rfl
  · have e : b = (s.heap.push { cls := .type "range", data := .fields #[.int lo t, .int hi u, .int 1 v] }).objs.size := by simpa using hb
    subst e
    exact I1.fpOk (Nat.le_refl _) (I1.hok.fresh (Nat.le_refl _))
noncomputable def iRng1 (ta : TA) : TI := fun σ H R => ta σ H fun vs H1 => ∃ j : Int, vs = [.int j] ∧ -(2 ^ 62) ≤ j ∧ j < 2 ^ 62 ∧ R (Itr 0 j.toNat) H1
theorem pi_range1 {a : Expr} {ta : TA} {p pos : Pos} (hg : Gl X "range") (hm : X.mg "range" = none) (ha : PA X [a] ta) (hs : starEach [a] X.env = [(false, eval a X.env)] := by rfl) : PI X tg (.Call (.Name "range" p) [a] [] pos) (iRng1 ta) := by
  intro pins s σ H R I h
  refine Call_ (ld_blt I hg hm boot_range (PyProof.Rows.callWith_type1 (thn (ha pos pins s σ H _ I h) fun us s1 ⟨vs, H1, I1, r1, q1⟩ => ?_) hs rfl))
  obtain ⟨j, e, q1, q2, q⟩ := q1
  subst e
  cases r1 with
  | cons r rr =>
    cases rr
    obtain ⟨t, rfl⟩ := r
    exact call_range_1 (range_it I1 (by omega) (by omega) q1 q2 (by simpa using q))
noncomputable def tFor (wi : TI) (g : TG) (tb : TS) : TS := fun D σ H => wi σ H fun J H1 => ∃ W : Nat → Nat → St → Hp → Prop, (∃ m, W 0 m σ H1) ∧ ∀ i m σ H, W i m σ H →
  (J.stop i H ∧ D.nx σ H) ∨ (J.go i H ∧ ∃ N : St → Hp → Prop, (∀ σ' H', N σ' H' → ∃ m', m' < m ∧ W (i + 1) m' σ' H') ∧ ∀ x H', J.yld i H x H' → g x σ H' fun σ2 H2 => tb { D with nx := N, ct := N, bk := D.nx } σ2 H2)
noncomputable def pinsAt (fp : List Addr) (h : Heap) : List (Addr × Obj) := fp.filterMap fun b => (h.get? b).map fun o => (b, o)
theorem mem_pinsAt {fp : List Addr} {h : Heap} {b : Addr} {o : Obj} (hb : b ∈ fp) (e : h.get? b = some o) : (b, o) ∈ pinsAt fp h := List.mem_filterMap.mpr ⟨b, hb, by rw [e]; rfl⟩
theorem of_pinsAt {fp : List Addr} {h : Heap} {p : Addr × Obj} (hp : p ∈ pinsAt fp h) : p.1 ∈ fp ∧ h.get? p.1 = some p.2 := by
  obtain ⟨b, hb, e⟩ := List.mem_filterMap.mp hp
  cases q : h.get? b with
  | none => rw [q] at e; cases e
  | some o =>
    rw [q] at e
    have e' : (b, o) = p := Option.some.inj e
    subst e'
    exact ⟨hb, q⟩
theorem Inv.pinned {pins : List (Addr × Obj)} {σ : St} {H : Hp} {s : Shared} {fp : List Addr} (I : Inv X pins σ H s) (hf : ∀ b ∈ fp, FpOk X pins H b) (ho : ∀ b ∈ fp, ∃ o, s.heap.get? b = some o ∧ ∀ v, o.data ≠ .cell v) : Inv X (pins ++ pinsAt fp s.heap) σ H s :=
  I.pins_of fun p hp => (List.mem_append.mp hp).elim (fun z => I.pin p (List.mem_append_right _ z)) fun z => by
    obtain ⟨hb, e⟩ := of_pinsAt z
    obtain ⟨f0, f1, f2, _⟩ := hf p.1 hb
    obtain ⟨o, e', d⟩ := ho p.1 hb
    rw [e] at e'; cases e'
    exact ⟨e, f0, f1, f2, d⟩
theorem Inv.unpinned {pins pl : List (Addr × Obj)} {σ : St} {H : Hp} {s : Shared} (I : Inv X (pins ++ pl) σ H s) : Inv X pins σ H s := I.pins_of fun p hp => I.pin p (List.mem_append_right _ (List.mem_append_left _ hp))
theorem ps_for {iter : Expr} {body : List Stmt} {wi : TI} {g : TG} {tb : TS} {pos : Pos} (hp : PassesOwn (model X.prog X.w) X.A X.env X.xe) (hc : X.calm = true) (hi : PI X tg iter wi) (hg : PG X tg g) (hb : PSs X body tb)
    (hs : ∀ x, foldedSetIterable iter X.env x = pure x := by intro _; rfl) : PS X (.For tg iter body [] pos) (tFor wi g tb) := by
  intro pins s σ H D I h
  refine wpAny_For (thn (hi pins s σ H _ I h) fun v s1 h1 => thn h1 fun itv s2 h2 => ?_) hs
  obtain ⟨it, fp, tn, J, H2, e, I2, T, st2, f2, W, ⟨m0, w0⟩, turn⟩ := h2
  subst e
  -- what stays true of the iterator's objects through the loop
  have stat : ∀ {H' : Hp}, (∀ b ∈ fp, H' b = none) → ∀ b ∈ fp, FpOk X pins H' b := fun hn b hb => ⟨hn b hb, (f2 b hb).2⟩
  refine codeAny_forLoop_any (fun n s' => ∃ i σ' H', Inv X pins σ' H' s' ∧ tn i s'.heap ∧ (∀ b ∈ fp, H' b = none) ∧ W i n σ' H') ?_ m0 ⟨0, σ, H2, I2, st2, fun b hb => (f2 b hb).1, w0⟩
  rintro n s3 ⟨i, σ3, H3, I3, st3, fr3, w3⟩
  rcases turn i n σ3 H3 w3 with ⟨stop, qn⟩ | ⟨go, N, hN, step⟩
  · refine wpAny_passesOwn hp (thn (T.done X rfl rfl rfl hc i pins s3 σ3 H3 X.xe I3 (stat fr3) st3 stop) fun r s4 ⟨hr, I4⟩ => ?_)
    subst hr
    exact wpAny_execs_nil ⟨σ3, H3, I4, qn⟩
  · refine wpAny_passesOwn hp (thn (T.item X rfl rfl rfl hc i pins s3 σ3 H3 X.xe I3 (stat fr3) st3 go) fun r s4 ⟨u, hr, h4⟩ => ?_)
    subst hr
    refine wpAny_passesOwn hp (thn h4 fun _ s5 ⟨x, H5, I5, r5, y5, st5, fr5⟩ => ?_)
    have I5' := I5.pinned (stat fr5) (T.obj _ _ st5)
    refine wpAny_passesOwn hp (thn (hg _ s5 σ3 H5 x u _ I5' r5 (step x H5 y5)) fun _ s6 ⟨σ6, H6, I6, q6⟩ => ?_)
    refine wpAny_passesOwn hp (thn (hb _ s6 σ6 H6 _ I6 q6) fun f s7 q7 => ?_)
    have again : ∀ {σ7 : St} {H7 : Hp}, Inv X (pins ++ pinsAt fp s5.heap) σ7 H7 s7 → N σ7 H7 → ∃ m, m < n ∧ ∃ i σ' H', Inv X pins σ' H' s7 ∧ tn i s7.heap ∧ (∀ b ∈ fp, H' b = none) ∧ W i m σ' H' := fun {σ7 H7} I7 n7 => by
      obtain ⟨m', hm, w7⟩ := hN σ7 H7 n7
      refine ⟨m', hm, i + 1, σ7, H7, I7.unpinned, T.keep _ _ _ st5 fun b hb o e => (I7.pin (b, o) (List.mem_append_right _ (List.mem_append_right _ (mem_pinsAt hb e)))).1, fun b hb => ?_, w7⟩
      obtain ⟨o, e, d⟩ := T.obj _ _ st5 b hb
      exact (I7.pin (b, o) (List.mem_append_right _ (List.mem_append_right _ (mem_pinsAt hb e)))).2.1
    cases f with
    | next => obtain ⟨σ7, H7, I7, n7⟩ := q7; exact again I7 n7
    | cont => obtain ⟨σ7, H7, I7, n7⟩ := q7; exact again I7 n7
    | brk => obtain ⟨σ7, H7, I7, q7⟩ := q7; exact ⟨σ7, H7, I7.unpinned, q7⟩
    | ret v => obtain ⟨x7, σ7, H7, I7, r7, q7⟩ := q7; exact ⟨x7, σ7, H7, I7.unpinned, r7, q7⟩
end

theorem for_list {K : PySem.W.Frag} {a : Addr} {xs : List V} {g : TG} {tb : TS} {D : Ends} {σ : St} {H : Hp} (Pv : Nat → St → Hp → Prop) (h0 : Pv 0 σ H) (hl : ∀ i σ H, i ≤ xs.length → Pv i σ H → SqL K H a xs)
    (hs : ∀ i x σ H, xs[i]? = some x → Pv i σ H → g x σ H fun σ2 H2 => tb { D with nx := Pv (i + 1), ct := Pv (i + 1), bk := D.nx } σ2 H2) (hd : ∀ σ H, Pv xs.length σ H → D.nx σ H) :
    ∃ W : Nat → Nat → St → Hp → Prop, (∃ m, W 0 m σ H) ∧ ∀ i m σ H, W i m σ H →
      ((Itl K a).stop i H ∧ D.nx σ H) ∨ ((Itl K a).go i H ∧ ∃ N : St → Hp → Prop, (∀ σ' H', N σ' H' → ∃ m', m' < m ∧ W (i + 1) m' σ' H') ∧ ∀ x H', (Itl K a).yld i H x H' → g x σ H' fun σ2 H2 => tb { D with nx := N, ct := N, bk := D.nx } σ2 H2) := by
  refine ⟨fun i m σ H => m = xs.length - i ∧ i ≤ xs.length ∧ Pv i σ H, ⟨xs.length, by simp, Nat.zero_le _, h0⟩, ?_⟩
  rintro i m σ H ⟨rfl, hi, p⟩
  have q := hl i σ H hi p
  by_cases hlt : i < xs.length
  · refine .inr ⟨⟨xs, xs[i], q, by simp [hlt]⟩, Pv (i + 1), fun σ' H' p' => ⟨xs.length - (i + 1), by omega, rfl, hlt, p'⟩, fun x H' y => ?_⟩
    obtain ⟨e, y⟩ := y
    subst e
    exact hs i x σ _ (y xs q) p
  · have e : i = xs.length := by omega
    subst e
    exact .inl ⟨⟨xs, q, Nat.le_refl _⟩, hd σ H p⟩
theorem for_range {lo : Int} {n : Nat} {g : TG} {tb : TS} {D : Ends} {σ : St} {H : Hp} (Pv : Nat → St → Hp → Prop) (h0 : Pv 0 σ H)
    (hs : ∀ i σ H, i < n → Pv i σ H → g (.int (lo + i)) σ H fun σ2 H2 => tb { D with nx := Pv (i + 1), ct := Pv (i + 1), bk := D.nx } σ2 H2) (hd : ∀ σ H, Pv n σ H → D.nx σ H) :
    ∃ W : Nat → Nat → St → Hp → Prop, (∃ m, W 0 m σ H) ∧ ∀ i m σ H, W i m σ H →
      ((Itr lo n).stop i H ∧ D.nx σ H) ∨ ((Itr lo n).go i H ∧ ∃ N : St → Hp → Prop, (∀ σ' H', N σ' H' → ∃ m', m' < m ∧ W (i + 1) m' σ' H') ∧ ∀ x H', (Itr lo n).yld i H x H' → g x σ H' fun σ2 H2 => tb { D with nx := N, ct := N, bk := D.nx } σ2 H2) := by
  refine ⟨fun i m σ H => m = n - i ∧ i ≤ n ∧ Pv i σ H, ⟨n, by simp, Nat.zero_le _, h0⟩, ?_⟩
  rintro i m σ H ⟨rfl, hi, p⟩
  by_cases hlt : i < n
  · refine .inr ⟨hlt, Pv (i + 1), fun σ' H' p' => ⟨n - (i + 1), by omega, rfl, hlt, p'⟩, fun x H' y => ?_⟩
    obtain ⟨e, y⟩ := y
    subst e y
    exact hs i σ _ hlt p
  · have e : i = n := by omega
    subst e
    exact .inl ⟨Nat.le_refl _, hd σ H p⟩
end L2

namespace L2
open PySem PySem.Spec PyProof.Rows

noncomputable abbrev R2 := V → V → Hp → VK → Prop
noncomputable def OpR (X : Cx) (f : Value → Value → Sem Value) (r : R2) : Prop :=
  ∀ (pins : List (Addr × Obj)) (s : Shared) (σ : St) (H : Hp) (x y : V) (v u : Value) (Q : VK), Inv X pins σ H s → RelV x v → RelV y u → r x y H Q →
    wpAny (model X.prog X.w) X.A (f v u) (EP X pins σ Q) X.xe s
noncomputable def UnR (X : Cx) (f : Value → Sem Value) (r : V → Hp → VK → Prop) : Prop :=
  ∀ (pins : List (Addr × Obj)) (s : Shared) (σ : St) (H : Hp) (x : V) (v : Value) (Q : VK), Inv X pins σ H s → RelV x v → r x H Q →
    wpAny (model X.prog X.w) X.A (f v) (EP X pins σ Q) X.xe s
noncomputable def CallR (X : Cx) (f : Value) (r : List V → Hp → VK → Prop) : Prop :=
  ∀ (pins : List (Addr × Obj)) (s : Shared) (σ : St) (H : Hp) (xs : List V) (us : List Value) (Q : VK), Inv X pins σ H s → Vals xs us → r xs H Q →
    wpAny (model X.prog X.w) X.A (call f us) (EP X pins σ Q) X.xe s
noncomputable def tOp (r : R2) (ta tb : TE) : TE := fun σ H Q => ta σ H fun x H1 => tb σ H1 fun y H2 => r x y H2 Q
noncomputable def tUn (r : V → Hp → VK → Prop) (ta : TE) : TE := fun σ H Q => ta σ H fun x H1 => r x H1 Q
noncomputable def rI (C : Int → Int → Prop) (g : Int → Int → V) : R2 := fun x y H Q => ∃ i j, x = .int i ∧ y = .int j ∧ C i j ∧ Q (g i j) H
noncomputable def rI0 (g : Int → Int → V) : R2 := fun x y H Q => ∃ i j, x = .int i ∧ y = .int j ∧ Q (g i j) H
noncomputable def rU (g : Int → V) : V → Hp → VK → Prop := fun x H Q => ∃ i, x = .int i ∧ Q (g i) H

section
variable {X : Cx} {a b c : Expr} {ta tb tc : TE} {pos : Pos}

theorem binT (ha : PE X a ta) (hb : PE X b tb) {pins : List (Addr × Obj)} {s : Shared} {σ : St} {H : Hp} {R : V → V → Hp → Prop} (I : Inv X pins σ H s)
    (h : ta σ H fun x H1 => tb σ H1 fun y H2 => R x y H2) {Q : Value → Shared → Prop} {f : Value → Value → Sem Value}
    (hf : ∀ v u s2 x y H2, Inv X pins σ H2 s2 → RelV x v → RelV y u → R x y H2 → wpAny (model X.prog X.w) X.A (f v u) Q X.xe s2) :
    wpAny (model X.prog X.w) X.A (eval a X.env) (fun v s₁ => wpAny (model X.prog X.w) X.A (eval b X.env) (fun u s₂ => wpAny (model X.prog X.w) X.A (f v u) Q X.xe s₂) X.xe s₁) X.xe s := by
  refine thn (ha pins s σ H _ I h) fun v s1 ⟨x, H1, I1, r1, q1⟩ => ?_
  refine thn (hb pins s1 σ H1 _ I1 q1) fun u s2 ⟨y, H2, I2, r2, q2⟩ => ?_
  exact hf v u s2 x y H2 I2 r1 r2 q2

theorem pe_op {op : Operator} {r : R2} (ho : OpR X (binaryOp op) r) (ha : PE X a ta) (hb : PE X b tb) : PE X (.BinOp a op b pos) (tOp r ta tb) := by
  intro pins s σ H Q I h
  exact wpAny_BinOp (binT ha hb I h fun v u s2 x y H2 I2 rx ry q => ho pins s2 σ H2 x y v u Q I2 rx ry q)
theorem pe_un {op : UnaryOp} {r : V → Hp → VK → Prop} (ho : UnR X (unaryOp op) r) (ha : PE X a ta) : PE X (.UnaryOp op a pos) (tUn r ta) := by
  intro pins s σ H Q I h
  exact UnaryOp_ (thn (ha pins s σ H _ I h) fun v s1 ⟨x, H1, I1, r1, q1⟩ => ho pins s1 σ H1 x v Q I1 r1 q1)
theorem opI {f : Value → Value → Sem Value} {C : Int → Int → Prop} {g : Int → Int → Int}
    (rule : ∀ (i j : Int) (t u : Tok) (s : Shared) (Q : Value → Shared → Prop) (E : Value → Shared → Prop), C i j → Q (.int (g i j) s.toks) { s with toks := s.toks + 1 } → wpAny (model X.prog X.w) X.A (f (.int i t) (.int j u)) Q E s) :
    OpR X f (rI C fun i j => .int (g i j)) := by
  intro pins s σ H x y v u Q I rx ry h
  obtain ⟨i, j, rfl, rfl, hc, q⟩ := h
  obtain ⟨t, rfl⟩ := rx
  obtain ⟨t', rfl⟩ := ry
  exact rule i j t t' s _ _ hc ⟨.int (g i j), H, I.tok _, ⟨_, rfl⟩, q⟩
theorem opI0 {f : Value → Value → Sem Value} {g : Int → Int → Int}
    (rule : ∀ (i j : Int) (t u : Tok) (s : Shared) (Q : Value → Shared → Prop) (E : Value → Shared → Prop), Q (.int (g i j) s.toks) { s with toks := s.toks + 1 } → wpAny (model X.prog X.w) X.A (f (.int i t) (.int j u)) Q E s) :
    OpR X f (rI0 fun i j => .int (g i j)) := by
  intro pins s σ H x y v u Q I rx ry h
  obtain ⟨i, j, rfl, rfl, q⟩ := h
  obtain ⟨t, rfl⟩ := rx
  obtain ⟨t', rfl⟩ := ry
  exact rule i j t t' s _ _ ⟨.int (g i j), H, I.tok _, ⟨_, rfl⟩, q⟩
theorem opB0 {f : Value → Value → Sem Value} {g : Int → Int → Bool}
    (rule : ∀ (i j : Int) (t u : Tok) (s : Shared) (Q : Value → Shared → Prop) (E : Value → Shared → Prop), Q (.bool (g i j)) s → wpAny (model X.prog X.w) X.A (f (.int i t) (.int j u)) Q E s) :
    OpR X f (rI0 fun i j => .bl (g i j)) := by
  intro pins s σ H x y v u Q I rx ry h
  obtain ⟨i, j, rfl, rfl, q⟩ := h
  obtain ⟨t, rfl⟩ := rx
  obtain ⟨t', rfl⟩ := ry
  exact rule i j t t' s _ _ ⟨.bl (g i j), H, I, rfl, q⟩

noncomputable def CDiv (i j : Int) : Prop := 0 < j ∧ j < 1073741824
noncomputable def CPow (i j : Int) : Prop := 0 ≤ j ∧ j ≤ 1000000 ∧ i.natAbs < 2 ^ 64
noncomputable def CMul (i j : Int) : Prop := (-(2 ^ 64) < i ∧ i < 2 ^ 64) ∨ (-(2 ^ 64) < j ∧ j < 2 ^ 64)
theorem CMul.ok {i j : Int} (h : CMul i j) : IntMulOk i j := by
  rcases h with ⟨h1, h2⟩ | ⟨h1, h2⟩
  · exact .of_left (intBits_le_64 h1 h2)
  · exact .of_right (intBits_le_64 h1 h2)
theorem two_pow_nn (k : Nat) : (0 : Int) ≤ 2 ^ k := by
  rw [two_pow_cast]
  exact Int.natCast_nonneg _

theorem op_add : OpR X (binaryOp .Add) (rI0 fun i j => .int (i + j)) := opI0 fun _ _ _ _ _ _ _ q => add_int q
theorem op_sub : OpR X (binaryOp .Sub) (rI0 fun i j => .int (i - j)) := opI0 fun _ _ _ _ _ _ _ q => sub_int q
theorem op_mul : OpR X (binaryOp .Mult) (rI CMul fun i j => .int (i * j)) := opI fun _ _ _ _ _ _ _ hc q => mul_int q hc.ok
theorem op_fdiv : OpR X (binaryOp .FloorDiv) (rI CDiv fun i j => .int (i / j)) := opI fun i j _ _ _ _ _ hc q => by
  have h1 : (0 : Int) < j := hc.1
  have h2 : j < 1073741824 := hc.2
  exact floordiv_int (by omega) (by rw [Int.fdiv_eq_ediv_of_nonneg i (by omega)]; exact q) (.inl (PyProof.noPylong_small (by omega)))
theorem op_mod : OpR X (binaryOp .Mod) (rI (fun _ j => 0 < j) fun i j => .int (i % j)) := opI fun i j _ _ _ _ _ hc q => by
  have h1 : (0 : Int) < j := hc
  exact mod_int' (by omega) (by rw [Int.fmod_eq_emod_of_nonneg i (by omega)]; exact q)
theorem op_pow : OpR X (binaryOp .Pow) (rI CPow fun i j => .int (i ^ j.toNat)) := opI fun _ _ _ _ _ _ _ hc q => pow_int_small hc.1 hc.2.1 hc.2.2 q
theorem op_shl : OpR X (binaryOp .LShift) (rI CPow fun i j => .int (i * 2 ^ j.toNat)) := opI fun _ _ _ _ _ _ _ hc q => lshift_int_small hc.1 hc.2.1 hc.2.2 q
theorem op_shr : OpR X (binaryOp .RShift) (rI (fun _ j => 0 ≤ j) fun i j => .int (i / 2 ^ j.toNat)) := opI fun i j _ _ _ _ _ hc q =>
  rshift_int hc (by rw [Int.fdiv_eq_ediv_of_nonneg i (two_pow_nn _)]; exact q)
theorem op_and : OpR X (binaryOp .BitAnd) (rI0 fun i j => .int (Builtin.bitAnd i j)) := opI0 fun _ _ _ _ _ _ _ q => and_int q
theorem op_or : OpR X (binaryOp .BitOr) (rI0 fun i j => .int (Builtin.bitOr i j)) := opI0 fun _ _ _ _ _ _ _ q => or_int q
theorem unI {f : Value → Sem Value} {g : Int → Int}
    (rule : ∀ (i : Int) (t : Tok) (s : Shared) (Q : Value → Shared → Prop) (E : Value → Shared → Prop), Q (.int (g i) s.toks) { s with toks := s.toks + 1 } → wpAny (model X.prog X.w) X.A (f (.int i t)) Q E s) :
    UnR X f (rU fun i => .int (g i)) := by
  intro pins s σ H x v Q I rx h
  obtain ⟨i, rfl, q⟩ := h
  obtain ⟨t, rfl⟩ := rx
  exact rule i t s _ _ ⟨.int (g i), H, I.tok _, ⟨_, rfl⟩, q⟩
theorem un_neg : UnR X (unaryOp .USub) (rU fun i => .int (-i)) := unI fun _ _ _ _ _ q => neg_int q
end

noncomputable def scal : V → V → Bool
  | .non, .non => true | .non, .int _ => true | .int _, .non => true | .non, .bl _ => true | .bl _, .non => true | .non, .str _ => true | .str _, .non => true
  | .int _, .int _ => true | .bl _, .bl _ => true | .str _, .str _ => true | .byt _, .byt _ => true
  | .int _, .str _ => true | .str _, .int _ => true | .bl _, .str _ => true | .str _, .bl _ => true
  | _, _ => false
noncomputable def rEq : R2 := fun x y H Q => scal x y = true ∧ Q (.bl (decide (x = y))) H
noncomputable def rNe : R2 := fun x y H Q => scal x y = true ∧ Q (.bl (!decide (x = y))) H

theorem dec_int {i j : Int} : decide (V.int i = V.int j) = (i == j) := by
  rw [Bool.eq_iff_iff]
  simp
theorem dec_bl {i j : Bool} : decide (V.bl i = V.bl j) = (i == j) := by
  rw [Bool.eq_iff_iff]
  simp
theorem dec_str {i j : Str} : decide (V.str i = V.str j) = (i == j) := by
  rw [Bool.eq_iff_iff]
  simp
theorem dec_byt {i j : Array UInt8} : decide (V.byt i = V.byt j) = (i.toList == j.toList) := by
  rw [Bool.eq_iff_iff]
  cases i
  cases j
  simp

section
variable {X : Cx} {a b c : Expr} {ta tb tc : TE} {pos : Pos}
theorem fin_bl {pins : List (Addr × Obj)} {σ : St} {H : Hp} {s : Shared} {Q : VK} {k k' : Bool} (I : Inv X pins σ H s) (q : Q (.bl k) H) (e : k = k') : EP X pins σ Q (.bool k') s := by
  subst e
  exact ⟨.bl k, H, I, rfl, q⟩
theorem op_eq : OpR X (compareOp .Eq) rEq := by
  intro pins s σ H x y v u Q I rx ry h
  obtain ⟨hs, q⟩ := h
  cases x with
  | non =>
    cases rx
    cases y with
    | non => cases ry; exact PySem.EqNone.eq_none_none (fin_bl I q (by simp))
    | bl j => cases ry; exact PySem.EqNone.eq_none_bool (fin_bl I q (by simp))
    | int j => obtain ⟨t', rfl⟩ := ry; exact PySem.EqNone.eq_none_int (fin_bl I q (by simp))
    | str j => obtain ⟨t', rfl⟩ := ry; exact PySem.EqNone.eq_none_str (fin_bl I q (by simp))
    | _ => exact absurd (show false = true from hs) Bool.false_ne_true
  | bl i =>
    cases rx
    cases y with
    | non => cases ry; exact PySem.EqNone.eq_bool_none (fin_bl I q (by simp))
    | bl j => cases ry; exact eq_bool (fin_bl I q dec_bl)
    | str j => obtain ⟨t', rfl⟩ := ry; exact PySem.EqMixed.eq_bool_str (fin_bl I q (by simp))
    | _ => exact absurd (show false = true from hs) Bool.false_ne_true
  | int i =>
    obtain ⟨t, rfl⟩ := rx
    cases y with
    | non => cases ry; exact PySem.EqNone.eq_int_none (fin_bl I q (by simp))
    | int j => obtain ⟨t', rfl⟩ := ry; exact eq_int (fin_bl I q dec_int)
    | str j => obtain ⟨t', rfl⟩ := ry; exact PySem.EqMixed.eq_int_str (fin_bl I q (by simp))
    | _ => exact absurd (show false = true from hs) Bool.false_ne_true
  | str i =>
    obtain ⟨t, rfl⟩ := rx
    cases y with
    | non => cases ry; exact PySem.EqNone.eq_str_none (fin_bl I q (by simp))
    | bl j => cases ry; exact PySem.EqMixed.eq_str_bool (fin_bl I q (by simp))
    | int j => obtain ⟨t', rfl⟩ := ry; exact PySem.EqMixed.eq_str_int (fin_bl I q (by simp))
    | str j => obtain ⟨t', rfl⟩ := ry; exact eq_str (fin_bl I q dec_str)
    | _ => exact absurd (show false = true from hs) Bool.false_ne_true
  | byt i =>
    obtain ⟨t, rfl⟩ := rx
    cases y with
    | byt j => obtain ⟨t', rfl⟩ := ry; exact PySem.W.eq_bytes (fin_bl I q dec_byt)
    | _ => exact absurd (show false = true from hs) Bool.false_ne_true
  | _ => cases y <;> exact absurd (show false = true from hs) Bool.false_ne_true
theorem op_ne : OpR X (compareOp .NotEq) rNe := by
  intro pins s σ H x y v u Q I rx ry h
  obtain ⟨hs, q⟩ := h
  cases x with
  | non =>
    cases rx
    cases y with
    | non => cases ry; exact PySem.EqNone.ne_none_none (fin_bl I q (by simp))
    | bl j => cases ry; exact PySem.EqNone.ne_none_bool (fin_bl I q (by simp))
    | int j => obtain ⟨t', rfl⟩ := ry; exact PySem.EqNone.ne_none_int (fin_bl I q (by simp))
    | str j => obtain ⟨t', rfl⟩ := ry; exact PySem.EqNone.ne_none_str (fin_bl I q (by simp))
    | _ => exact absurd (show false = true from hs) Bool.false_ne_true
  | bl i =>
    cases rx
    cases y with
    | non => cases ry; exact PySem.EqNone.ne_bool_none (fin_bl I q (by simp))
    | bl j => cases ry; exact ne_bool (fin_bl I q (congrArg not dec_bl))
    | str j => obtain ⟨t', rfl⟩ := ry; exact PySem.EqMixed.ne_bool_str (fin_bl I q (by simp))
    | _ => exact absurd (show false = true from hs) Bool.false_ne_true
  | int i =>
    obtain ⟨t, rfl⟩ := rx
    cases y with
    | non => cases ry; exact PySem.EqNone.ne_int_none (fin_bl I q (by simp))
    | int j => obtain ⟨t', rfl⟩ := ry; exact ne_int (fin_bl I q (congrArg not dec_int))
    | str j => obtain ⟨t', rfl⟩ := ry; exact PySem.EqMixed.ne_int_str (fin_bl I q (by simp))
    | _ => exact absurd (show false = true from hs) Bool.false_ne_true
  | str i =>
    obtain ⟨t, rfl⟩ := rx
    cases y with
    | non => cases ry; exact PySem.EqNone.ne_str_none (fin_bl I q (by simp))
    | bl j => cases ry; exact PySem.EqMixed.ne_str_bool (fin_bl I q (by simp))
    | int j => obtain ⟨t', rfl⟩ := ry; exact PySem.EqMixed.ne_str_int (fin_bl I q (by simp))
    | str j => obtain ⟨t', rfl⟩ := ry; exact ne_str (fin_bl I q (congrArg not dec_str))
    | _ => exact absurd (show false = true from hs) Bool.false_ne_true
  | byt i =>
    obtain ⟨t, rfl⟩ := rx
    cases y with
    | byt j => obtain ⟨t', rfl⟩ := ry; exact PySem.W.ne_bytes (fin_bl I q (congrArg not dec_byt))
    | _ => exact absurd (show false = true from hs) Bool.false_ne_true
  | _ => cases y <;> exact absurd (show false = true from hs) Bool.false_ne_true

theorem op_lt : OpR X (compareOp .Lt) (rI0 fun i j => .bl (decide (i < j))) := opB0 fun _ _ _ _ _ _ _ q => lt_int q
theorem op_le : OpR X (compareOp .LtE) (rI0 fun i j => .bl (decide (i ≤ j))) := opB0 fun _ _ _ _ _ _ _ q => le_int q
theorem op_gt : OpR X (compareOp .Gt) (rI0 fun i j => .bl (decide (j < i))) := opB0 fun _ _ _ _ _ _ _ q => gt_int q
theorem op_in_str : OpR X (compareOp .In) (fun x y H Q => ∃ i j, x = .str i ∧ y = .str j ∧ Q (.bl (!(Builtin.Str.occurrences j i 0 j.length 1).isEmpty)) H) := by
  intro pins s σ H x y v u Q I rx ry h
  obtain ⟨i, j, rfl, rfl, q⟩ := h
  obtain ⟨t, rfl⟩ := rx
  obtain ⟨t', rfl⟩ := ry
  exact in_str (fin_bl I q rfl)

theorem op_isN : OpR X (compareOp .Is) (fun x y H Q => y = .non ∧ Q (.bl (decide (x = .non))) H) := by
  intro pins s σ H x y v u Q I rx ry h
  obtain ⟨rfl, q⟩ := h
  cases ry
  refine is_none_gen (fin_bl I q ?_)
  cases x <;> first
    | (cases rx; rfl)
    | (obtain ⟨t, rfl⟩ := rx; rfl)
theorem nomark (b : Expr) {op : CmpOp} (h : op ≠ .In := by decide) (h2 : op ≠ .NotIn := by decide) : behindInMarks op b = false := by
  have e1 : (op == CmpOp.In) = false := by cases op <;> first | rfl | exact absurd rfl h
  have e2 : (op == CmpOp.NotIn) = false := by cases op <;> first | rfl | exact absurd rfl h2
  cases b <;> simp [behindInMarks, e1, e2]
theorem pe_cmpR {op : CmpOp} {r : R2} (ho : OpR X (compareOp op) r) (ha : PE X a ta) (hb : PE X b tb) (hm : behindInMarks op b = false) : PE X (.Compare a [op] [b] pos) (tOp r ta tb) := by
  intro pins s σ H Q I h
  exact wpAny_Compare1 (binT ha hb I h fun v u s2 x y H2 I2 rx ry q => ho pins s2 σ H2 x y v u Q I2 rx ry q) hm
noncomputable def tTest (t : TE) : TT := fun σ H Q => t σ H fun x H' => ∃ k, x = .bl k ∧ Q k H'
theorem pt_cmpR {op : CmpOp} {r : R2} (ho : OpR X (compareOp op) r) (ha : PE X a ta) (hb : PE X b tb) (hm : behindInMarks op b = false) : PT X (.Compare a [op] [b] pos) (tTest (tOp r ta tb)) := by
  intro pins s σ H Q I h
  refine wpAny_isTrue_Compare1 (thn (ha pins s σ H _ I h) fun v s1 ⟨x, H1, I1, r1, q1⟩ => thn (hb pins s1 σ H1 _ I1 q1) fun u s2 ⟨y, H2, I2, r2, q2⟩ =>
    thn (ho pins s2 σ H2 x y v u _ I2 r1 r2 q2) fun c s3 ⟨z, H3, I3, r3, k, e, q3⟩ => ?_) hm
  subst e
  cases r3
  exact wpAny_truthy_bool ⟨H3, I3, q3⟩
theorem line63 : (sizeLine : Nat) < 2 ^ 63 := by rw [sizeLine_eq]; decide
theorem op_add_str : OpR X (binaryOp .Add) (fun x y H Q => ∃ i j, x = .str i ∧ y = .str j ∧ i.length + j.length ≤ sizeLine ∧ Q (.str (i ++ j)) H) := by
  intro pins s σ H x y v u Q I rx ry h
  obtain ⟨i, j, rfl, rfl, hz, q⟩ := h
  obtain ⟨t, rfl⟩ := rx
  obtain ⟨t', rfl⟩ := ry
  exact add_str (fun t' tk => ⟨.str (i ++ j), H, I.tok _, ⟨_, rfl⟩, q⟩) hz
theorem vals1 {x : V} {us : List Value} (r : Vals [x] us) : ∃ u, us = [u] ∧ RelV x u := by
  cases r with
  | cons r1 r2 => cases r2; exact ⟨_, rfl, r1⟩
theorem vals2 {x y : V} {us : List Value} (r : Vals [x, y] us) : ∃ u w', us = [u, w'] ∧ RelV x u ∧ RelV y w' := by
  cases r with
  | cons r1 r2 =>
    cases r2 with
    | cons r3 r4 => cases r4; exact ⟨_, _, rfl, r1, r3⟩
theorem call_int1 : CallR X (.type "int") (fun xs H Q => (∃ i, xs = [.int i] ∧ Q (.int i) H) ∨ ∃ k, xs = [.bl k] ∧ Q (.int (if k then 1 else 0)) H) := by
  intro pins s σ H xs us Q I r h
  rcases h with ⟨i, rfl, q⟩ | ⟨k, rfl, q⟩
  · obtain ⟨u, rfl, t, rfl⟩ := vals1 r
    exact call_int_int ⟨.int i, H, I, ⟨_, rfl⟩, q⟩
  · obtain ⟨u, rfl, r1⟩ := vals1 r
    cases r1
    exact call_int_bool ⟨.int (if k then 1 else 0), H, I.tok _, ⟨_, rfl⟩, q⟩
theorem call_str_int : CallR X (.type "str") (fun xs H Q => ∃ i, xs = [.int i] ∧ i.natAbs.log2 < 1920 ∧ Q (.str (toString i)) H) := by
  intro pins s σ H xs us Q I r h
  obtain ⟨i, rfl, hz, q⟩ := h
  obtain ⟨u, rfl, t, rfl⟩ := vals1 r
  exact PySem.P.str_of_int hz ⟨.str _, H, I.tok _, ⟨_, rfl⟩, q⟩
end
end L2

namespace L2
open PySem PySem.Spec PyProof.Rows

structure ObjM (h : Heap) (x dx C : Addr) (mA : Str → Option Value) : Prop where
  obj : h.get? x = some (PySem.W.instObj C dx)
  ns : h.Ns1 dx mA
  ne : dx ≠ x

theorem lookIn_ns {h : Heap} {dx : Addr} {mA : Str → Option Value} (n : h.Ns1 dx mA) : ∃ od, h.get? dx = some od ∧ ∀ name, PySem.W.lookIn name od = some (mA name) := by
  obtain ⟨o, es, ep, ho, hd, hk, _, hm⟩ := n
  refine ⟨o, ho, fun name => ?_⟩
  have e := hm name
  unfold nsFind findBy at e
  rw [← Array.find?_toList] at e
  unfold PySem.W.lookIn
  rw [hd]
  dsimp only
  split
  · rename_i y q
    rw [q] at e
    exact congrArg some e
  · rename_i q
    rw [q] at e
    have a : es.toList.any (·.refKey) = false := by
      rw [List.any_eq_false]
      intro y hy
      obtain ⟨z, t, hkey⟩ := hk y (Array.mem_toList_iff.mp hy)
      simp [DictEntry.refKey, hkey]
    have a' : ¬ es.toList.any (·.refKey) = true := by rw [a]; exact Bool.false_ne_true
    rw [if_neg a']
    exact congrArg some e

theorem ObjM.look {h : Heap} {x dx C : Addr} {mA : Str → Option Value} (I : ObjM h x dx C mA) : ∃ od, PySem.W.InstAt h x (PySem.W.instObj C dx) C (some od) ∧ ∀ name, PySem.W.lookIn name od = some (mA name) :=
  let ⟨od, ho, hl⟩ := lookIn_ns I.ns
  ⟨od, ⟨I.obj, rfl, rfl, ho⟩, hl⟩

section
variable {prog : Program} {w : World} {A : Around} {E : Value → Shared → Prop} {s : Shared} {K : PySem.W.Frag} {x dx C f : Addr} {mA : Str → Option Value} {name : Str} {v : Value}

theorem get_map {expr : Bool} {Q : Value → Shared → Prop} (X : K.In s.heap) (I : ObjM s.heap x dx C mA) (hg : PySem.W.plainGet K C name = true) (hh : PySem.W.hasDictIn K C = true)
    (ha : PySem.W.findIn K (.ref C) name = some none) (hv : mA name = some v) (hv' : PySem.W.handedIn v = true) (h : Q v { s with toks := s.toks + 1 }) :
    wpAny (model prog w) A (getAttr (.ref x) name expr) Q E s := by
  obtain ⟨od, J, hl⟩ := I.look
  exact PySem.W.get_value X J (PySem.W.plainGet_of hg).1 (PySem.W.findObj_own hh ha rfl (by rw [hl, hv])) hv' h

theorem get_meth {pl : Sem Bool} {Q : Value × List Value → Shared → Prop} (X : K.In s.heap) (I : ObjM s.heap x dx C mA) (hg : PySem.W.plainGet K C name = true)
    (hf : PySem.W.findIn K (.ref C) name = some (some (.ref f))) (ht : PySem.W.isFn K (.ref f) = true) (hv : mA name = none) (h : Q (.ref f, [.ref x]) s) :
    wpAny (model prog w) A (getMethod (.ref x) name pl) Q E s := by
  obtain ⟨od, J, hl⟩ := I.look
  exact PySem.W.method_fn X J (PySem.W.plainGet_of hg).1 (PySem.W.plainGet_of hg).2 hf (beq_iff_eq.mp ht) (by show (PySem.W.lookIn name od).map (·.isSome) = some false; rw [hl, hv]; rfl) h

theorem set_map {ns : List Str} {Q : Unit → Shared → Prop} (X : K.In s.heap) (I : ObjM s.heap x dx C mA)
    (hs : PySem.W.findIn K (.ref C) "__setattr__" = some (some (.builtin "object.__setattr__"))) (hp : PySem.W.plainOver K C = true) (ht : PySem.W.takerIn K C name = some none) (hh : PySem.W.hasDictIn K C = true)
    (hw : PySem.Within mA ns) (hsz : ns.length ≤ sizeLine)
    (h : ∀ h', ObjM h' x dx C (fun y => if y = name then some v else mA y) → Heap.SameBut dx s.heap h' → Q () { s with heap := h', toks := s.toks + 2 }) :
    wpAny (model prog w) A (setAttr (.ref x) name v) Q E s := by
  obtain ⟨od, J, hl⟩ := I.look
  refine PySem.W.set_plain X J hs (PySem.W.osa_open (s := { s with toks := s.toks + 1 }) (r := none) X J hp ht fun b => ?_)
  obtain ⟨cd, hc, hd'⟩ := PySem.W.any_some hh
  have hx : s.heap.get? x = some ⟨.ref C, some dx, .plain, #[]⟩ := I.obj
  refine wpAny_bind (wpAny_pure (wpAny_bind (wpAny_bind (wpAny_loadPart hx (wpAny_bind (PySem.W.Looks.here (s := { s with toks := s.toks + 1 }) (PySem.W.looks_clsIn X hc) ?_))))))
  rw [hd']
  refine wpAny_pure (a := some dx) (wpAny_bind (wpAny_pure (wpAny_bind ?_)))
  refine wpAny_nsSet1 (s := { s with toks := s.toks + 1 }) I.ns fun h' hn2 hs2 => ?_
  obtain ⟨oD, esD, epD, hoD, hdD, hcD⟩ := hn2.count (PySem.Within.cons name v hw)
  refine wpAny_bind (wpAny_lookBehind hoD (by rw [hdD]; exact pastItsLine_dict (Nat.le_trans hcD (by rw [List.length_cons]; omega))) ?_)
  exact wpAny_pure (h _ ⟨(hs2.2 _ (Ne.symm I.ne)).trans I.obj, hn2, I.ne⟩ hs2)

theorem make_map {R : Result → Shared → Prop} {vs : List Value} {kw : List (Str × Value)} (X : K.In s.heap) (hm : PySem.W.makesIn K C = true)
    (hi : PySem.W.findIn K (.ref C) "__init__" = some (some (.ref f))) (hf : PySem.W.typeIn K (.ref f) = some (.type "function"))
    (h : codeAny (model prog w) (A.under (.builtin "type.__call__" ⟨.ref C :: vs, kw⟩)) (.call (.ref f) ⟨.ref (s.heap.objs.size + 1) :: vs, kw⟩) (PySem.W.InitBack (s.heap.objs.size + 1) R)
      { s with heap := (s.heap.push PySem.W.emptyDict).push (PySem.W.instObj C s.heap.objs.size) }) :
    codeAny (model prog w) A (.call (.ref C) ⟨vs, kw⟩) R s := by
  obtain ⟨hh, g, d, t, os⟩ := s
  exact PySem.W.make_core (PySem.W.makes_of X hm) (PySem.W.looks_findIn X hi) (fun self => PySem.W.bind_fn X self hf) (.inl rfl) h
end

noncomputable def putF (f : Str) (v : V) : List (Str × V) → List (Str × V)
  | [] => [(f, v)]
  | (g, x) :: r => if g = f then (g, v) :: r else (g, x) :: putF f v r
theorem lookup_putF (f g : Str) (v : V) : ∀ fs : List (Str × V), (putF f v fs).lookup g = if g = f then some v else fs.lookup g
  | [] => by
    show List.lookup g [(f, v)] = _
    by_cases h : g = f
    · have hb : (g == f) = true := beq_iff_eq.mpr h
      simp only [List.lookup, hb, if_pos h]
    · have hb : (g == f) = false := beq_eq_false_iff_ne.mpr h
      simp only [List.lookup, hb, if_neg h]
  | (k, x) :: r => by
    have ih := lookup_putF f g v r
    rw [show putF f v ((k, x) :: r) = (if k = f then (k, v) :: r else (k, x) :: putF f v r) from rfl]
    by_cases hk : k = f
    · rw [if_pos hk]
      by_cases h : g = k
      · have hb : (g == k) = true := beq_iff_eq.mpr h
        simp only [List.lookup, hb, if_pos (h.trans hk)]
      · have hb : (g == k) = false := beq_eq_false_iff_ne.mpr h
        simp only [List.lookup, hb, if_neg (fun e : g = f => h (e.trans hk.symm))]
    · rw [if_neg hk]
      by_cases h : g = k
      · have hb : (g == k) = true := beq_iff_eq.mpr h
        simp only [List.lookup, hb, if_neg (fun e : g = f => hk (h.symm.trans e))]
      · have hb : (g == k) = false := beq_eq_false_iff_ne.mpr h
        simp only [List.lookup, hb]
        exact ih
theorem keys_putF (f : Str) (v : V) : ∀ fs : List (Str × V), f ∈ (putF f v fs).map (·.1) ∧ ∀ g, g ∈ fs.map (·.1) → g ∈ (putF f v fs).map (·.1)
  | [] => ⟨by simp [putF], fun g h => by simp at h⟩
  | (k, x) :: r => by
    obtain ⟨i1, i2⟩ := keys_putF f v r
    rw [show putF f v ((k, x) :: r) = (if k = f then (k, v) :: r else (k, x) :: putF f v r) from rfl]
    by_cases hk : k = f
    · rw [if_pos hk]
      subst hk
      exact ⟨by simp, fun g h => by simpa using h⟩
    · rw [if_neg hk]
      refine ⟨?_, fun g h => ?_⟩
      · rw [List.map_cons]
        exact List.mem_cons_of_mem _ i1
      · rw [List.map_cons] at h ⊢
        rcases List.mem_cons.mp h with e | e
        · exact List.mem_cons.mpr (.inl e)
        · exact List.mem_cons_of_mem _ (i2 g e)
theorem length_putF (f : Str) (v : V) : ∀ fs : List (Str × V), (putF f v fs).length ≤ fs.length + 1
  | [] => by simp [putF]
  | (k, x) :: r => by
    have ih := length_putF f v r
    rw [show putF f v ((k, x) :: r) = (if k = f then (k, v) :: r else (k, x) :: putF f v r) from rfl]
    by_cases hk : k = f
    · rw [if_pos hk, List.length_cons, List.length_cons]; omega
    · rw [if_neg hk, List.length_cons, List.length_cons]; omega

theorem RelO.some_of {v : V} {o : Option Value} (r : RelO (some v) o) : ∃ u, o = some u ∧ RelV v u := by
  cases o with
  | none => exact (show False from r).elim
  | some u => exact ⟨u, rfl, r⟩
theorem RelO.none_of {o : Option Value} (r : RelO none o) : o = none := by
  cases o with
  | none => rfl
  | some u => exact (show False from r).elim
theorem handed_of {v : V} {u : Value} (r : RelV v u) : PySem.W.handedIn u = true := by
  cases v with
  | non => cases (show u = Value.none from r); rfl
  | bl b => cases (show u = Value.bool b from r); rfl
  | int i => obtain ⟨t, e⟩ := (show ∃ t, u = Value.int i t from r); cases e; rfl
  | str x => obtain ⟨t, e⟩ := (show ∃ t, u = Value.str x t from r); cases e; rfl
  | byt b => obtain ⟨t, e⟩ := (show ∃ t, u = Value.bytes b t from r); cases e; rfl
  | flt b => obtain ⟨t, e⟩ := (show ∃ t, u = Value.float b t from r); cases e; rfl
  | ref a => cases (show u = Value.ref a from r); rfl
  | ty n => cases (show u = Value.type n from r); rfl

section
variable {P : Program} {w : World} {H H' : Hp} {h h' : Heap} {a C dx : Addr} {fs fs' : List (Str × V)}
theorem ins_get (hok : HOk P w H h) (e : H a = some (.ins C dx fs)) : ∃ mA, ObjM h a dx C mA ∧ (∀ f, RelO (fs.lookup f) (mA f)) ∧ PySem.Within mA (fs.map (·.1)) ∧ fs.length ≤ 1000 ∧ H dx = some (.own a) := by
  obtain ⟨d, z, ne, ob, mA, n, r, q⟩ := (show ObjOk P w H h a (.ins C dx fs) from hok a _ e)
  exact ⟨mA, ⟨ob, n, ne⟩, r, q, z, d⟩
end

structure Cls (K : PySem.W.Frag) (C : Addr) : Prop where
  pg : PySem.W.plainGet K C Str.empty = true
  hd : PySem.W.hasDictIn K C = true
  po : PySem.W.plainOver K C = true
  sa : PySem.W.findIn K (.ref C) "__setattr__" = some (some (.builtin "object.__setattr__"))
theorem Cls.get {K : PySem.W.Frag} {C : Addr} (c : Cls K C) (f : Str) : PySem.W.plainGet K C f = true := c.pg
noncomputable def NoAttr (K : PySem.W.Frag) (C : Addr) (f : Str) : Prop := PySem.W.findIn K (.ref C) f = some none
theorem NoAttr.taker {K : PySem.W.Frag} {C : Addr} {f : Str} (n : NoAttr K C f) : PySem.W.takerIn K C f = some none := by
  unfold PySem.W.takerIn
  rw [show PySem.W.findIn K (.ref C) f = some none from n]
  rfl
structure Meth (K : PySem.W.Frag) (C : Addr) (m : Str) (f : Addr) : Prop where
  at_ : PySem.W.findIn K (.ref C) m = some (some (.ref f))
  fn : PySem.W.isFn K (.ref f) = true
  kp : PySem.W.keepIn K (.ref f) = true

section
variable {X : Cx} {pins : List (Addr × Obj)} {σ : St} {H : Hp} {s : Shared} {a C dx : Addr} {fs : List (Str × V)} {f : Str} {v : V} {A : Around} {E : Value → Shared → Prop}

theorem getattr_ok {b : Bool} {Q : Value → Shared → Prop} (I : Inv X pins σ H s) (e : H a = some (.ins C dx fs)) (c : Cls X.K C) (n : NoAttr X.K C f) (l : fs.lookup f = some v)
    (h : ∀ u s', Inv X pins σ H s' → RelV v u → Q u s') : wpAny (model X.prog X.w) A (getAttr (.ref a) f b) Q E s := by
  obtain ⟨mA, O, r, _, _, _⟩ := ins_get I.hok e
  obtain ⟨u, hu, ru⟩ := RelO.some_of (v := v) (o := mA f) (by rw [← l]; exact r f)
  exact get_map I.kIn O (c.get f) c.hd n hu (handed_of ru) (h u _ (I.tok _) ru)

theorem getmeth_ok {m : Str} {g : Addr} {pl : Sem Bool} {Q : Value × List Value → Shared → Prop} (I : Inv X pins σ H s) (e : H a = some (.ins C dx fs)) (c : Cls X.K C) (k : Meth X.K C m g) (l : fs.lookup m = none)
    (h : Q (.ref g, [.ref a]) s) : wpAny (model X.prog X.w) A (getMethod (.ref a) m pl) Q E s := by
  obtain ⟨mA, O, r, _, _, _⟩ := ins_get I.hok e
  have hn : mA m = none := RelO.none_of (by rw [← l]; exact r m)
  exact get_meth I.kIn O (c.get m) k.at_ k.fn hn h

theorem setattr_ok {y : V} {u : Value} {Q : Unit → Shared → Prop} (I : Inv X pins σ H s) (e : H a = some (.ins C dx fs)) (c : Cls X.K C) (n : NoAttr X.K C f) (hl : fs.length < 1000) (ry : RelV y u)
    (h : ∀ s', Inv X pins σ (upd H a (.ins C dx (putF f y fs))) s' → Q () s') : wpAny (model X.prog X.w) A (setAttr (.ref a) f u) Q E s := by
  obtain ⟨mA, O, r, wi, _, ho⟩ := ins_get I.hok e
  have hz : (fs.map (·.1)).length ≤ sizeLine := by rw [List.length_map, sizeLine_eq]; omega
  refine set_map I.kIn O c.sa c.po n.taker c.hd wi hz fun h' O' sb => h _ ?_
  have hd : ∃ o, h'.get? dx = some o := let ⟨o, _, _, e', _⟩ := O'.ns; ⟨o, e'⟩
  refine I.write (x := a) (e := dx) (by rw [e]; exact True.intro) (.inr ho) (fun b q hb z => (sb.2 b hb).trans z) hd ?_
  refine ⟨by rw [upd_ne O.ne]; exact ho, ?_, O.ne, O'.obj, _, O'.ns, fun g => ?_, fun g hg => ?_⟩
  · have := length_putF f y fs; omega
  · show RelO ((putF f y fs).lookup g) (if g = f then some u else mA g)
    rw [lookup_putF]
    by_cases q : g = f
    · rw [if_pos q, if_pos q]; exact ry
    · rw [if_neg q, if_neg q]; exact r g
  · by_cases q : g = f
    · rw [q]; exact (keys_putF f y fs).1
    · refine (keys_putF f y fs).2 g (wi g fun z => hg ?_)
      show (if g = f then some u else mA g) = none
      rw [if_neg q]; exact z

theorem Inv.made (I : Inv X pins σ H s) : Inv X pins σ (upd (upd H s.heap.objs.size (.own (s.heap.objs.size + 1))) (s.heap.objs.size + 1) (.ins C s.heap.objs.size []))
    { s with heap := (s.heap.push PySem.W.emptyDict).push (PySem.W.instObj C s.heap.objs.size) } := by
  have e1 : (s.heap.push PySem.W.emptyDict).get? s.heap.objs.size = some PySem.W.emptyDict := Heap.get?_push_size s.heap rfl
  have e2 : ((s.heap.push PySem.W.emptyDict).push (PySem.W.instObj C s.heap.objs.size)).get? (s.heap.objs.size + 1) = some (PySem.W.instObj C s.heap.objs.size) := by
    have := Heap.get?_push_size (s.heap.push PySem.W.emptyDict) (o := PySem.W.instObj C s.heap.objs.size) rfl
    rwa [Heap.size_push] at this
  have e3 : (s.heap.push PySem.W.emptyDict).Ns s.heap.objs.size (fun _ => none) := ⟨PySem.W.emptyDict, #[], _, e1, rfl, (fun e he => absurd he (by simp)), fun _ => rfl⟩
  have I1 := I.laid (a := s.heap.objs.size) (o := .own (s.heap.objs.size + 1)) (h' := s.heap.push PySem.W.emptyDict) (t' := s.toks) (fun b u q => Heap.get?_push_of_some _ q) (Nat.le_refl _) ⟨_, e1⟩
  refine I1.laid (a := s.heap.objs.size + 1) (o := .ins C s.heap.objs.size []) (t' := s.toks) (fun b u q => Heap.get?_push_of_some _ q) (Nat.le_of_eq (Heap.size_push _ _)) ?_
  have ne : s.heap.objs.size ≠ s.heap.objs.size + 1 := Nat.ne_of_lt (Nat.lt_succ_self _)
  refine ⟨by rw [upd_ne ne, upd_same], Nat.zero_le _, ne, e2, fun _ => none, (Heap.Ns1.of_empty e3).at fun o q => Heap.get?_push_of_some _ q, fun _ => True.intro, fun y hy => absurd rfl hy⟩

theorem attr_of {prog : Program} {w : World} {env : Env} {e : Expr} {f : Str} {pos : Pos} {s : Shared} {Q : Value → Shared → Prop} (hb : attributeBase e f env (eval e env) = eval e env)
    (h : wpAny (model prog w) A (eval e env) (fun o s₁ => wpAny (model prog w) A (getAttr o f true) Q E s₁) E s) : wpAny (model prog w) A (eval (.Attribute e f pos) env) Q E s :=
  Attribute_any_ h (by rw [arm_eval_Attribute, hb])
end

noncomputable def tFld (K : PySem.W.Frag) (ta : TE) (f : Str) : TE := fun σ H Q => ta σ H fun x H1 => ∃ a C dx fs v, x = .ref a ∧ H1 a = some (.ins C dx fs) ∧ Cls K C ∧ NoAttr K C f ∧ fs.lookup f = some v ∧ Q v H1
noncomputable def sFld (K : PySem.W.Frag) (ta tv : TE) (f : Str) : TS := fun D σ H => tv σ H fun y H1 => ta σ H1 fun x H2 => ∃ a C dx fs, x = .ref a ∧ H2 a = some (.ins C dx fs) ∧ Cls K C ∧ NoAttr K C f ∧ fs.length < 1000 ∧
  D.nx σ (upd H2 a (.ins C dx (putF f y fs)))
section
variable {X : Cx} {o e value : Expr} {f : Str} {pos pos' tpos : Pos} {ta tv : TE}
theorem pe_fld (he : PE X e ta) (hb : attributeBase e f X.env (eval e X.env) = eval e X.env) : PE X (.Attribute e f pos) (tFld X.K ta f) := by
  intro pins s σ H Q I h
  refine attr_of hb (thn (he pins s σ H _ I h) fun u s1 hz => ?_)
  obtain ⟨x, H1, I1, rx, a, C, dx, fs, v, ex, ea, c, n, l, q⟩ := hz
  subst ex
  obtain rfl : u = Value.ref a := rx
  exact getattr_ok I1 ea c n l fun u' s2 I2 ru => ⟨v, H1, I2, ru, q⟩
theorem ps_fld (ha : PE X o ta) (hv : PE X value tv) (hs : swapsWith value (some (.Attribute o f pos')) pos.line X.env = pure false) : PS X (.Assign [.Attribute o f pos'] value pos) (sFld X.K ta tv f) := by
  intro pins s σ H D I h
  refine plainObj_wpAny_Assign_Attribute (thn (hv pins s σ H _ I h) fun u s1 ⟨y, H1, I1, ry, q⟩ => thn (ha pins s1 σ H1 _ I1 q) fun ov s2 hz => ?_) hs
  obtain ⟨x, H2, I2, rx, a, C, dx, fs, ex, ea, c, n, l, q2⟩ := hz
  subst ex
  obtain rfl : ov = Value.ref a := rx
  exact setattr_ok I2 ea c n l ry fun s3 I3 => ⟨σ, _, I3, q2⟩
end

section
variable {X : Cx} {pins : List (Addr × Obj)} {σ : St} {H : Hp} {s : Shared} {A : Around} {E : Value → Shared → Prop} {Q : Value → Shared → Prop} {c : Value} {b : Bool}
inductive TyOf (K : PySem.W.Frag) (H : Hp) : V → Value → Prop where
  | non : TyOf K H .non (.type "NoneType")
  | bl (x : Bool) : TyOf K H (.bl x) (.type "bool")
  | int (i : Int) : TyOf K H (.int i) (.type "int")
  | str (x : Str) : TyOf K H (.str x) (.type "str")
  | flt (x : UInt64) : TyOf K H (.flt x) (.type "float")
  | lst {a : Addr} {xs : List V} (e : H a = some (.lst xs)) : TyOf K H (.ref a) (.type "list")
  | frz {a : Addr} {o : Obj} {xs : List V} (e : H a = some (.frz o (.lst xs))) : TyOf K H (.ref a) (.type "list")
  | tup {a : Addr} {xs : List V} (e : H a = some (.tup xs)) : TyOf K H (.ref a) (.type "tuple")
  | dK {a : Addr} {kvs : List (Key × V)} (e : H a = some (.dK kvs)) : TyOf K H (.ref a) (.type "dict")
  | dT {a : Addr} {kvs : List (List Key × V)} (e : H a = some (.dT kvs)) : TyOf K H (.ref a) (.type "dict")
  | ins {a C dx : Addr} {fs : List (Str × V)} (e : H a = some (.ins C dx fs)) (cl : Cls K C) (ha : PySem.W.findIn K (.ref C) "__class__" = some (some (.builtin "object.__class__")))
      (hn : PySem.W.specialIn K (.builtin "object.__class__") "__get__" = some (some (.builtin "getset_descriptor.__get__"))) (htk : PySem.W.takesIn K (.builtin "object.__class__") = some true)
      (hm : PySem.W.mroIn K C (.type "object") = some true) : TyOf K H (.ref a) (.ref C)
theorem isinst_ok {x : V} {u t : Value} (I : Inv X pins σ H s) (rx : RelV x u) (ty : TyOf X.K H x t) (e : PySem.W.kitOne X.K t c = some b) (h : ∀ tk, Q (.bool b) { s with toks := tk }) :
    wpAny (model X.prog X.w) A (call (.builtin "isinstance") [u, c]) Q E s := by
  cases ty with
  | non => cases (show u = Value.none from rx); exact PySem.W.kia_one PySem.W.kitx_none I.kIn True.intro e (fun z => nomatch z) h
  | bl y => cases (show u = Value.bool y from rx); exact PySem.W.kia_one PySem.W.kitx_bool I.kIn True.intro e (fun z => nomatch z) h
  | int i => obtain ⟨t, q⟩ := (show ∃ t, u = Value.int i t from rx); cases q; exact PySem.W.kia_one PySem.W.kitx_int I.kIn True.intro e (fun z => nomatch z) h
  | str y => obtain ⟨t, q⟩ := (show ∃ t, u = Value.str y t from rx); cases q; exact PySem.W.kia_one PySem.W.kitx_str I.kIn True.intro e (fun z => nomatch z) h
  | flt y => obtain ⟨t, q⟩ := (show ∃ t, u = Value.float y t from rx); cases q; exact PySem.W.kia_one PySem.W.kitx_float I.kIn True.intro e (fun z => nomatch z) h
  | @lst a xs ea =>
    cases (show u = Value.ref a from rx)
    obtain ⟨_, _, n, _, h1⟩ := (show ObjOk X.prog X.w H s.heap a (.lst xs) from I.hok a _ ea)
    exact PySem.W.kia_one PySem.W.kitx_list I.kIn ⟨_, h1, rfl⟩ e (fun z => nomatch z) h
  | @frz a ob xs ea =>
    cases (show u = Value.ref a from rx)
    obtain ⟨_, _, _, n, _, h1⟩ := (show ObjOk X.prog X.w H s.heap a (.frz ob (.lst xs)) from I.hok a _ ea)
    exact PySem.W.kia_one PySem.W.kitx_list I.kIn ⟨_, h1, rfl⟩ e (fun z => nomatch z) h
  | @tup a xs ea =>
    cases (show u = Value.ref a from rx)
    obtain ⟨_, _, _, p⟩ := (show ObjOk X.prog X.w H s.heap a (.tup xs) from I.hok a _ ea)
    obtain ⟨o, h1, h2, _⟩ := p
    exact PySem.W.kia_one PySem.W.kitx_tuple I.kIn ⟨o, h1, h2⟩ e (fun z => nomatch z) h
  | @dK a kvs ea =>
    cases (show u = Value.ref a from rx)
    obtain ⟨_, _, vs, _, p⟩ := (show ObjOk X.prog X.w H s.heap a (.dK kvs) from I.hok a _ ea)
    obtain ⟨o, es, ep, h1, h2, _⟩ := p
    exact PySem.W.kia_one PySem.W.kitx_dict I.kIn ⟨o, h1, h2.1⟩ e (fun z => nomatch z) h
  | @dT a kvs ea =>
    cases (show u = Value.ref a from rx)
    obtain ⟨_, _, xs, _, o, es, ep, h1, h2, _⟩ := (show ObjOk X.prog X.w H s.heap a (.dT kvs) from I.hok a _ ea)
    exact PySem.W.kia_one PySem.W.kitx_dict I.kIn ⟨o, h1, h2.1⟩ e (fun z => nomatch z) h
  | @ins a C dx fs ea cl ha hn htk hm =>
    cases (show u = Value.ref a from rx)
    obtain ⟨mA, O, _⟩ := ins_get I.hok ea
    obtain ⟨od, J, _⟩ := O.look
    exact PySem.W.kia_one (PySem.W.kitx_own (cl.get _) cl.hd ha hn htk hm) I.kIn J e (fun z => nomatch z) h
end
end L2

namespace L2
open PySem PySem.Spec PyProof.Rows

structure Room (k : Nat) (A : Around) : Prop where
  hd : A.handled = none
  dp : A.depth + 3 * k + 5 < recursionLimit
  un : A.units + 16 * k + 200 < cLine
theorem Room.mono {j k : Nat} {A : Around} (r : Room k A) (h : j ≤ k) : Room j A := ⟨r.hd, by have := r.dp; omega, by have := r.un; omega⟩
theorem Room.deeper {k : Nat} {A : Around} (r : Room (k + 1) A) (env : Env) : Room k (A.deeper env) :=
  ⟨r.hd, by have := r.dp; show A.depth + 1 + 3 * k + 5 < _; omega, by have := r.un; show A.units + 3 + 16 * k + 200 < _; omega⟩
theorem make_depth {A : Around} {C : Addr} {us : List Value} {kw : List (Str × Value)} : (A.under (.builtin "type.__call__" ⟨.ref C :: us, kw⟩)).depth = A.depth + 1 := by
  first | rfl | simp [Around.under, Code.weight, Code.isCreation, Code.isGuard, Code.isCaller, Code.frames, Code.isFrame, guardIds]
theorem make_units {A : Around} {C : Addr} {us : List Value} {kw : List (Str × Value)} : (A.under (.builtin "type.__call__" ⟨.ref C :: us, kw⟩)).units = A.units + 1 := by
  first | rfl | simp [Around.under, Code.cUnits, Code.frames, Code.isFrame]
theorem Room.make {k : Nat} {A : Around} (r : Room (k + 1) A) (C : Addr) (us : List Value) (kw : List (Str × Value)) : Room k (A.under (.builtin "type.__call__" ⟨.ref C :: us, kw⟩)) :=
  ⟨r.hd, by have := r.dp; rw [make_depth]; omega, by have := r.un; rw [make_units]; omega⟩
theorem Room.depth {k : Nat} {A : Around} (r : Room k A) : A.depth < recursionLimit := by have := r.dp; omega
theorem Room.units {k : Nat} {A : Around} (r : Room k A) : A.units + 64 < cLine := by have := r.un; omega
noncomputable def tNil : TA := fun _ H Q => Q [] H
noncomputable def tCons (ta : TE) (tr : TA) : TA := fun σ H Q => ta σ H fun x H1 => tr σ H1 fun xs H2 => Q (x :: xs) H2
section
variable {X : Cx} {e : Expr} {es : List Expr} {te : TE} {t : TA} {pos : Pos}
theorem pa_nil : PA X [] tNil := fun _ _ _ _ H Q I h => Calls.spliced_nil ⟨[], H, I, .nil, h⟩
theorem pa_cons (ha : PE X e te) (hr : PA X es t) (hs : starEach (e :: es) X.env = (false, eval e X.env) :: starEach es X.env := by rfl) : PA X (e :: es) (tCons te t) := by
  intro pos pins s σ H Q I h
  rw [hs]
  show wpAny _ _ (spliced ((false, eval e X.env) :: backTo pos (starEach es X.env))) _ _ s
  refine Calls.spliced_cons (thn (ha pins s σ H _ I h) fun u s1 ⟨x, H1, I1, r1, q1⟩ => ?_)
  exact thn (hr pos pins s1 σ H1 _ I1 q1) fun us s2 ⟨xs, H2, I2, r2, q2⟩ => ⟨x :: xs, H2, I2, .cons r1 r2, q2⟩

noncomputable def tTup (t : TA) : TE := fun σ H Q => t σ H fun xs H1 => xs.length ≤ sizeLine ∧ ∀ p, H1 p = none → Q (.ref p) (upd H1 p (.tup xs))
noncomputable def tLst (t : TA) : TE := fun σ H Q => t σ H fun xs H1 => xs.length ≤ sizeLine ∧ ∀ p, H1 p = none → Q (.ref p) (upd H1 p (.lst xs))
theorem pe_tup {x1} (h : PA X es t) : PE X (.Tuple es x1 pos) (tTup t) := by
  intro pins s σ H Q I hq
  refine wpAny_Tuple_spliced (thn (h pos pins s σ H _ I hq) fun us s1 ⟨xs, H1, I1, r, z, q⟩ => ⟨by rw [← r.length]; exact z, ?_⟩)
  have hf : H1 s1.heap.objs.size = none := I1.hok.fresh (Nat.le_refl _)
  refine ⟨.ref s1.heap.objs.size, upd H1 s1.heap.objs.size (.tup xs), I1.laid (t' := s1.toks) (fun b u e => Heap.get?_push_of_some _ e) (Nat.le_refl _) ?_, rfl, q _ hf⟩
  exact ⟨z, us, r, ⟨_, Heap.get?_push_size _ rfl, rfl, _, rfl⟩⟩
theorem pe_lst (h : PA X es t) : PE X (.List es pos) (tLst t) := by
  intro pins s σ H Q I hq
  refine wpAny_List_spliced (thn (h pos pins s σ H _ I hq) fun us s1 ⟨xs, H1, I1, r, z, q⟩ => ⟨by rw [← r.length]; exact z, ?_⟩)
  have hf : H1 s1.heap.objs.size = none := I1.hok.fresh (Nat.le_refl _)
  refine ⟨.ref s1.heap.objs.size, upd H1 s1.heap.objs.size (.lst xs), I1.laid (t' := s1.toks) (fun b u e => Heap.get?_push_of_some _ e) (Nat.le_refl _) ?_, rfl, q _ hf⟩
  exact ⟨z, us, 0, r, Heap.get?_push_size _ rfl⟩
end

noncomputable abbrev Sp := List V → Hp → VK → XK → Prop
noncomputable abbrev CXT := List Env → Hp → Shared → XK → Value → Shared → Prop

structure Env0 (P : Program) (w : World) (K : PySem.W.Frag) (mg : Str → Option Value) (base : Heap) (A : Around) (outer : List Env) (s : Shared) (H : Hp) : Prop where
  frames : A.frames = some outer
  mod : Mod K mg base
  bs : ∀ b o, base.get? b = some o → s.heap.get? b = some o ∧ H b = none
  bsz : base.objs.size ≤ s.heap.objs.size
  funs : s.heap.FunFrames base outer
  frf : ∀ b ∈ frs outer, H b = none
  hok : HOk P w H s.heap
  bare : AllBare s.gens
noncomputable def CE (outer : List Env) (P : Program) (w : World) (H : Hp) (s : Shared) (Q : VK) (u : Value) (s' : Shared) : Prop :=
  ∃ v H', s'.os = s.os ∧ AllBare s'.gens ∧ Un (frs outer) [] H H' s.heap s'.heap ∧ HOk P w H' s'.heap ∧ RelV v u ∧ Q v H'
noncomputable def CR (CX : CXT) (outer : List Env) (P : Program) (w : World) (H : Hp) (s : Shared) (Q : VK) (E : XK) (r : Result) (s' : Shared) : Prop :=
  match r with
  | .ok (.ret u) => CE outer P w H s Q u s'
  | .ok _ => False
  | .error e => CX outer H s E e s'
structure FnOk (P : Program) (w : World) (K : PySem.W.Frag) (mg : Str → Option Value) (base : Heap) (CX : CXT) (k : Nat) (f : Addr) (fd : FuncData) (ps : List Str) (sp : Sp) : Prop where
  len : ∀ vs H Q E, sp vs H Q E → vs.length = ps.length
  run : ∀ (A : Around) (outer : List Env) (s : Shared) (H : Hp) (args : Args) (us : List Value) (vs : List V) (Q : VK) (E : XK), Room k A → Env0 P w K mg base A outer s H → BindsTo s fd args (ps.zip us) → Vals vs us → sp vs H Q E →
    codeAny (model P w) A (.call (.ref f) args) (CR CX outer P w H s Q E) s
theorem FnOk.mono {P : Program} {w : World} {K : PySem.W.Frag} {mg : Str → Option Value} {base : Heap} {CX : CXT} {j k : Nat} {f : Addr} {fd : FuncData} {ps : List Str} {sp : Sp} (F : FnOk P w K mg base CX j f fd ps sp) (h : j ≤ k) :
    FnOk P w K mg base CX k f fd ps sp := ⟨F.len, fun A outer s H args us vs Q E hr => F.run A outer s H args us vs Q E (hr.mono h)⟩
theorem FnOk.imp {P : Program} {w : World} {K : PySem.W.Frag} {mg : Str → Option Value} {base : Heap} {CX : CXT} {k : Nat} {f : Addr} {fd : FuncData} {ps : List Str} {sp sp' : Sp} (F : FnOk P w K mg base CX k f fd ps sp)
    (h : ∀ vs H Q E, sp' vs H Q E → sp vs H Q E) : FnOk P w K mg base CX k f fd ps sp' :=
  ⟨fun vs H Q E q => F.len vs H Q E (h _ _ _ _ q), fun A outer s H args us vs Q E hr he hb hv hs => F.run A outer s H args us vs Q E hr he hb hv (h _ _ _ _ hs)⟩

theorem Env0.make {P : Program} {w : World} {K : PySem.W.Frag} {mg : Str → Option Value} {base : Heap} {A : Around} {outer : List Env} {s : Shared} {H : Hp} (e : Env0 P w K mg base A outer s H) (C : Addr) (us : List Value) (kw : List (Str × Value)) :
    Env0 P w K mg base (A.under (.builtin "type.__call__" ⟨.ref C :: us, kw⟩)) outer s H := ⟨by first | exact e.frames | (simpa [Around.under, Code.envs, Code.isFrame, pushEnvs] using e.frames), e.mod, e.bs, e.bsz, e.funs, e.frf, e.hok, e.bare⟩
section
variable {X : Cx} {pins : List (Addr × Obj)} {σ : St} {H : Hp} {s s' : Shared}
theorem Inv.env0 (I : Inv X pins σ H s) : Env0 X.prog X.w X.K X.mg X.base X.A X.stack s H :=
  ⟨I.ok.frames, I.ok.mod, I.bs, Nat.le_trans I.ok.bsz I.sz, I.stack, I.stkFree, I.hok, I.bare⟩
theorem Inv.after {Q : VK} {u : Value} (I : Inv X pins σ H s) (h : CE X.stack X.prog X.w H s Q u s') : EP X pins σ Q u s' := by
  obtain ⟨v, H', os, bare, un, hok, r, q⟩ := h
  obtain ⟨hh, g, d, t, os'⟩ := s'
  obtain rfl : os' = s.os := os
  exact ⟨v, H', I.call (h' := hh) (g' := g) (d' := d) (t' := t) (ch := []) un hok bare (fun b z => absurd z (by simp)), r, q⟩
end

noncomputable def tCall (sp : Sp) (dvs : List V) (E : XK) (t : TA) : TE := fun σ H Q => t σ H fun vs H1 => sp (vs ++ dvs) H1 Q E
noncomputable def tMeth (C : Addr) (m : Str) (sp : Sp) (dvs : List V) (E : XK) (ta : TE) (t : TA) : TE := fun σ H Q => ta σ H fun x H1 => ∃ a dx fs, x = .ref a ∧ H1 a = some (.ins C dx fs) ∧ fs.lookup m = none ∧
  t σ H1 fun vs H2 => sp (x :: (vs ++ dvs)) H2 Q E
noncomputable def tMake (C : Addr) (sp : Sp) (dvs : List V) (E : XK) (t : TA) : TE := fun σ H Q => t σ H fun vs H1 => ∀ x dx, H1 x = none → H1 dx = none → dx ≠ x →
  sp (.ref x :: (vs ++ dvs)) (upd (upd H1 dx (.own x)) x (.ins C dx [])) (fun v H2 => v = .non ∧ Q (.ref x) H2) E

noncomputable def Binds (K : PySem.W.Frag) (fd : FuncData) (ps : List Str) (ds : List Value) : Prop :=
  ∀ (s : Shared) (us : List Value), K.In s.heap → (us ++ ds).length = ps.length → BindsTo s fd ⟨us, []⟩ (ps.zip (us ++ ds))
theorem Binds.all {K : PySem.W.Frag} {fd : FuncData} {ps : List Str} (h : ∀ us : List Value, us.length = ps.length → bindArgs fd ⟨us, []⟩ = pure (ps.zip us)) : Binds K fd ps [] := fun s us _ hl => by
  rw [List.append_nil] at hl ⊢
  exact .of_eq (h us hl)

noncomputable def Passes (CX : CXT) (X : Cx) (E : XK) : Prop := ∀ (pins : List (Addr × Obj)) (σ : St) (H : Hp) (s : Shared) (e : Value) (s' : Shared), Inv X pins σ H s → CX X.stack H s E e s' → X.xe e s'

section
variable {X : Cx} {CX : CXT} {k : Nat} {f C : Addr} {fd : FuncData} {ps : List Str} {sp : Sp} {dvs : List V} {ds : List Value} {E : XK} {x m : Str} {p pos apos : Pos} {e o : Expr} {es : List Expr} {ta : TE} {t : TA}

theorem run_fn {pins : List (Addr × Obj)} {σ : St} {H : Hp} {s : Shared} {Q : VK} {us : List Value} {vs : List V} (F : FnOk X.prog X.w X.K X.mg X.base CX k f fd ps sp) (hr : Room k X.A) (hb : Binds X.K fd ps ds) (hd : Vals dvs ds) (hx : Passes CX X E)
    (I : Inv X pins σ H s) (r : Vals vs us) (h : sp (vs ++ dvs) H Q E) : wpAny (model X.prog X.w) X.A (call (.ref f) us) (EP X pins σ Q) X.xe s := by
  have r2 : Vals (vs ++ dvs) (us ++ ds) := r.append hd
  have hl : (us ++ ds).length = ps.length := by rw [← r2.length]; exact F.len _ _ _ _ h
  refine wpAny_call (codeAny_mono (F.run X.A X.stack s H ⟨us, []⟩ (us ++ ds) (vs ++ dvs) Q E hr I.env0 (hb s us I.kIn hl) r2 h) fun r s' hq => ?_)
  cases r with
  | error e => exact hx pins σ H s e s' I hq
  | ok fl =>
    cases fl with
    | ret u => exact I.after hq
    | next => exact False.elim hq
    | brk => exact False.elim hq
    | cont => exact False.elim hq

theorem pe_call (F : FnOk X.prog X.w X.K X.mg X.base CX k f fd ps sp) (hr : Room k X.A) (hg : Gl X x) (hm : X.mg x = some (.ref f)) (hk : PySem.W.keepIn X.K (.ref f) = true) (hb : Binds X.K fd ps ds) (hd : Vals dvs ds) (hx : Passes CX X E)
    (ha : PA X (e :: es) t) (hdb : (x == ("__debug__" : Str)) = false := by decide) (he : starEach (e :: es) X.env = (false, eval e X.env) :: starEach es X.env := by rfl) (hpl : (backTo pos (starEach es X.env)).any (·.1) = false := by rfl) :
    PE X (.Call (.Name x p) (e :: es) [] pos) (tCall sp dvs E t) := by
  intro pins s σ H Q I h
  refine wpAny_Call_Name_kw (ld_glob I hg hm ?_ hdb)
  refine PySem.W.callWith_K (h₀ := X.base) I.ok.mod.kin hk (thn (ha pos pins s σ H _ I h) fun us s1 ⟨vs, H1, I1, r, q⟩ => ⟨I1.kIn, ?_⟩) he hpl
  exact run_fn F hr hb hd hx I1 r q
theorem pe_meth {pl : Sem Bool} (he : PE X o ta) (c : Cls X.K C) (hm : Meth X.K C m f) (F : FnOk X.prog X.w X.K X.mg X.base CX k f fd ps sp) (hr : Room k X.A) (hb : Binds X.K fd ps ds) (hd : Vals dvs ds) (hx : Passes CX X E) (ha : PA X (e :: es) t)
    (hst : starEach (e :: es) X.env = (false, eval e X.env) :: starEach es X.env := by rfl) (hpl : (backTo pos (starEach es X.env)).any (·.1) = false := by rfl)
    (ht : eval (.Call (.Attribute o m apos) (e :: es) [] pos) X.env = (do
      let ov ← eval o X.env
      standAt apos.atName
      let (f, first) ← holding [ov] (getMethod ov m pl)
      callWith pos f first (backTo pos (starEach (e :: es) X.env)) (backToKw pos (keywordEach [] X.env))) := by rfl) :
    PE X (.Call (.Attribute o m apos) (e :: es) [] pos) (tMeth C m sp dvs E ta t) := by
  intro pins s σ H Q I h
  refine PySem.W.methodCall_KW (pl := pl) (thn (he pins s σ H _ I h) fun u s1 ⟨x, H1, I1, rx, a, dx, fs, ex, ea, l, q⟩ => ?_) ht
  subst ex
  obtain rfl : u = Value.ref a := rx
  refine getmeth_ok I1 ea c hm l ?_
  refine PySem.W.callWith_K (first := [.ref a]) (h₀ := X.base) I.ok.mod.kin hm.kp (thn (ha pos pins s1 σ H1 _ I1 q) fun us s2 ⟨vs, H2, I2, r, q2⟩ => ⟨I2.kIn, ?_⟩) hst hpl
  exact run_fn (us := .ref a :: us) (vs := .ref a :: vs) F hr hb hd hx I2 (.cons rfl r) q2
theorem pe_meth0 {pl : Sem Bool} (he : PE X o ta) (c : Cls X.K C) (hm : Meth X.K C m f) (F : FnOk X.prog X.w X.K X.mg X.base CX k f fd ps sp) (hr : Room k X.A) (hb : Binds X.K fd ps ds) (hd : Vals dvs ds) (hx : Passes CX X E)
    (ht : eval (.Call (.Attribute o m apos) [] [] pos) X.env = (do
      let ov ← eval o X.env
      standAt apos.atName
      let (f, first) ← holding [ov] (getMethod ov m pl)
      callWith pos f first (backTo pos (starEach [] X.env)) (backToKw pos (keywordEach [] X.env))) := by rfl) :
    PE X (.Call (.Attribute o m apos) [] [] pos) (tMeth C m sp dvs E ta tNil) := by
  intro pins s σ H Q I h
  refine PySem.W.methodCall_KW (pl := pl) (thn (he pins s σ H _ I h) fun u s1 ⟨x, H1, I1, rx, a, dx, fs, ex, ea, l, q⟩ => ?_) ht
  subst ex
  obtain rfl : u = Value.ref a := rx
  refine getmeth_ok I1 ea c hm l ?_
  exact PySem.W.callWith_K0 (first := [.ref a]) I1.kIn hm.kp (run_fn (us := [.ref a]) (vs := [.ref a]) F hr hb hd hx I1 (.cons rfl .nil) q)

structure Mk (K : PySem.W.Frag) (C f : Addr) : Prop where
  makes : PySem.W.makesIn K C = true
  init : PySem.W.findIn K (.ref C) "__init__" = some (some (.ref f))
  fn : PySem.W.isFn K (.ref f) = true
  kp : PySem.W.keepIn K (.ref C) = true

theorem run_make {pins : List (Addr × Obj)} {σ : St} {H : Hp} {s : Shared} {Q : VK} {us : List Value} {vs : List V} (M : Mk X.K C f) (F : FnOk X.prog X.w X.K X.mg X.base CX k f fd ps sp) (hr : Room (k + 1) X.A) (hb : Binds X.K fd ps ds) (hd : Vals dvs ds)
    (hx : Passes CX X E) (I : Inv X pins σ H s) (r : Vals vs us)
    (h : ∀ x dx, H x = none → H dx = none → dx ≠ x → sp (.ref x :: (vs ++ dvs)) (upd (upd H dx (.own x)) x (.ins C dx [])) (fun v H2 => v = .non ∧ Q (.ref x) H2) E) :
    wpAny (model X.prog X.w) X.A (call (.ref C) us) (EP X pins σ Q) X.xe s := by
  have hq := h (s.heap.objs.size + 1) s.heap.objs.size (I.hok.fresh (Nat.le_succ _)) (I.hok.fresh (Nat.le_refl _)) (Nat.ne_of_lt (Nat.lt_succ_self _))
  have I2 := Inv.made (C := C) I
  have r2 : Vals (V.ref (s.heap.objs.size + 1) :: (vs ++ dvs)) (Value.ref (s.heap.objs.size + 1) :: (us ++ ds)) := .cons rfl (r.append hd)
  have hl : (Value.ref (s.heap.objs.size + 1) :: us ++ ds).length = ps.length := by
    have e := r2.length
    rw [F.len _ _ _ _ hq] at e
    exact e.symm
  refine wpAny_call (make_map (f := f) I.kIn M.makes M.init (beq_iff_eq.mp M.fn) (codeAny_mono (F.run _ X.stack _ _ ⟨Value.ref (s.heap.objs.size + 1) :: us, []⟩ (Value.ref (s.heap.objs.size + 1) :: (us ++ ds)) _ _ E (hr.make C us [])
    (I2.env0.make C us []) (hb _ (Value.ref (s.heap.objs.size + 1) :: us) I2.kIn hl) r2 hq) fun r s' hq' => ?_))
  cases r with
  | error e => exact hx pins σ _ _ e s' I2 hq'
  | ok fl =>
    cases fl with
    | ret u =>
      obtain ⟨v, H', I3, rv, ev, q3⟩ := I2.after hq'
      subst ev
      exact ⟨rv, ⟨V.ref (s.heap.objs.size + 1), H', I3, rfl, q3⟩⟩
    | next => exact False.elim hq'
    | brk => exact False.elim hq'
    | cont => exact False.elim hq'
theorem pe_make (M : Mk X.K C f) (F : FnOk X.prog X.w X.K X.mg X.base CX k f fd ps sp) (hr : Room (k + 1) X.A) (hg : Gl X x) (hm : X.mg x = some (.ref C)) (hb : Binds X.K fd ps ds) (hd : Vals dvs ds) (hx : Passes CX X E)
    (ha : PA X (e :: es) t) (hdb : (x == ("__debug__" : Str)) = false := by decide) (he : starEach (e :: es) X.env = (false, eval e X.env) :: starEach es X.env := by rfl) (hpl : (backTo pos (starEach es X.env)).any (·.1) = false := by rfl) :
    PE X (.Call (.Name x p) (e :: es) [] pos) (tMake C sp dvs E t) := by
  intro pins s σ H Q I h
  refine wpAny_Call_Name_kw (ld_glob I hg hm ?_ hdb)
  refine PySem.W.callWith_K (h₀ := X.base) I.ok.mod.kin M.kp (thn (ha pos pins s σ H _ I h) fun us s1 ⟨vs, H1, I1, r, q⟩ => ⟨I1.kIn, ?_⟩) he hpl
  exact run_make M F hr hb hd hx I1 r q
end

section
variable {X : Cx} {CX : CXT} {k : Nat} {f C : Addr} {fd : FuncData} {ps ks : List Str} {sp : Sp} {E : XK} {x m : Str} {p pos apos kpos : Pos} {e o : Expr} {es : List Expr} {kws : List Keyword} {te ta : TE} {t tk : TA} {nm : Option Str}
variable {g : List Value → List Value → List Value} {gV : List V → List V → List V}
end

structure FnScope (N P : List Str) (sc : Scope) : Prop where
  kind : sc.kind = .function
  co : sc.isCoroutine = false
  gen : sc.isGenerator = false
  nd : N.Nodup
  pre : N.take P.length = P
  par : ∀ x ∈ P, sc.names.lookup x = some .local ∨ sc.names.lookup x = some .cell
  nofree : ∀ y ∈ sc.names, y.2 ≠ .free

theorem bindL_out {kindOf : Str → Option NameKind} {x : Str} : ∀ {binds : List (Str × Value)} {m : Str → Option Value}, (∀ v, (x, v) ∉ binds) → bindL kindOf binds m x = m x
  | [], _, _ => rfl
  | (n, v) :: r, m, h => by
    unfold bindL
    rw [bindL_out fun w hw => h w (List.mem_cons_of_mem _ hw)]
    split
    · have : x ≠ n := by rintro rfl; exact h v List.mem_cons_self
      simp [this]
    · rfl
theorem bindC_out {kindOf : Str → Option NameKind} {x : Str} : ∀ {binds : List (Str × Value)} {m : Str → Option Value}, (∀ v, (x, v) ∉ binds) → bindC kindOf binds m x = m x
  | [], _, _ => rfl
  | (n, v) :: r, m, h => by
    unfold bindC
    rw [bindC_out fun w hw => h w (List.mem_cons_of_mem _ hw)]
    split
    · rfl
    · have : x ≠ n := by rintro rfl; exact h v List.mem_cons_self
      simp [this]
theorem bindL_get {kindOf : Str → Option NameKind} {x : Str} {v : Value} : ∀ {P : List Str} {vs : List Value} {i : Nat} {m : Str → Option Value}, P.Nodup → P[i]? = some x → vs[i]? = some v → kindOf x = some .local →
    bindL kindOf (P.zip vs) m x = some v
  | [], _, _, _, _, h, _, _ => by simp at h
  | _ :: _, [], _, _, _, _, h, _ => by simp at h
  | p :: P, w :: vs, 0, m, nd, h1, h2, hk => by
    simp at h1 h2; subst h1; subst h2
    show bindL kindOf ((p, w) :: P.zip vs) m p = _
    unfold bindL
    rw [bindL_out fun v hv => (List.nodup_cons.mp nd).1 (List.of_mem_zip hv).1, if_pos hk]
    simp
  | p :: P, w :: vs, i + 1, m, nd, h1, h2, hk => by
    show bindL kindOf ((p, w) :: P.zip vs) m x = _
    unfold bindL
    exact bindL_get (i := i) (List.nodup_cons.mp nd).2 (by simpa using h1) (by simpa using h2) hk
theorem bindC_get {kindOf : Str → Option NameKind} {x : Str} {v : Value} : ∀ {P : List Str} {vs : List Value} {i : Nat} {m : Str → Option Value}, P.Nodup → P[i]? = some x → vs[i]? = some v → kindOf x ≠ some .local →
    bindC kindOf (P.zip vs) m x = some v
  | [], _, _, _, _, h, _, _ => by simp at h
  | _ :: _, [], _, _, _, _, h, _ => by simp at h
  | p :: P, w :: vs, 0, m, nd, h1, h2, hk => by
    simp at h1 h2; subst h1; subst h2
    show bindC kindOf ((p, w) :: P.zip vs) m p = _
    unfold bindC
    rw [bindC_out fun v hv => (List.nodup_cons.mp nd).1 (List.of_mem_zip hv).1, if_neg hk]
    simp
  | p :: P, w :: vs, i + 1, m, nd, h1, h2, hk => by
    show bindC kindOf ((p, w) :: P.zip vs) m x = _
    unfold bindC
    exact bindC_get (i := i) (List.nodup_cons.mp nd).2 (by simpa using h1) (by simpa using h2) hk

noncomputable def start (N : List Str) (vs : List V) : St := vs.map some ++ List.replicate (N.length - vs.length) none

noncomputable def cxOf (CX : CXT) (P : Program) (w : World) (K : PySem.W.Frag) (mg : Str → Option Value) (base : Heap) (N : List Str) (qual : Str) (scope : Scope) (f : Addr) (cd : Value) (A : Around) (outer : List Env) (s : Shared) (H : Hp) (E : XK) : Cx where
  prog := P
  w := w
  K := K
  mg := mg
  base := base
  A := A.deeper (envOfC qual scope s.heap.objs.size f cd)
  N := N
  s₀ := s
  H₀ := H
  env := envOfC qual scope s.heap.objs.size f cd
  outer := outer
  stack := envOfC qual scope s.heap.objs.size f cd :: outer
  ex := []
  calm := true
  fn := fun _ => true
  pn := []
  xe := fun e s' => wpAny (model P w) (A.deeper (envOfC qual scope s.heap.objs.size f cd)) («leaving» (envOfC qual scope s.heap.objs.size f cd) e) (fun _ s'' => CX outer H s E e s'') (fun e' s'' => CX outer H s E e' s'') s'

theorem cell_has {sc : Scope} {n : Nat} {x : Str} (h : sc.names.lookup x = some .cell) : ∃ c, (cellsFrom n sc.names []).lookup x = some c := by
  have q := PySem.W.cellsFrom_some sc.names n [] (.inl h)
  exact Option.isSome_iff_exists.mp q

theorem inv_start {CX : CXT} {P : Program} {w : World} {K : PySem.W.Frag} {mg : Str → Option Value} {base : Heap} {N ps : List Str} {qual : Str} {scope : Scope} {f : Addr} {cd : Value} {A : Around} {outer : List Env} {s s1 : Shared} {H : Hp} {E : XK} {us : List Value} {vs : List V}
    (S : FnScope N ps scope) (hd : A.handled = none) (e0 : Env0 P w K mg base A outer s H) (hl : vs.length = ps.length) (r : Vals vs us)
    (x : InCallC s s.heap.objs.size (bindL (envOfC qual scope s.heap.objs.size f cd).kindOf (ps.zip us) fun _ => none) (cellsFrom (s.heap.objs.size + 1) scope.names []) (bindC (envOfC qual scope s.heap.objs.size f cd).kindOf (ps.zip us) fun _ => none) s1) :
    Inv (cxOf CX P w K mg base N qual scope f cd A outer s H E) [] (start N vs) H s1 := by
  have hpl : ps.length ≤ N.length := by have := congrArg List.length S.pre; rw [List.length_take] at this; omega
  obtain ⟨h1, tk, rfl, hk⟩ := x.done
  have noA : ∀ b : Addr, b ∉ (cxOf CX P w K mg base N qual scope f cd A outer s H E).ex := fun b z => absurd (show b ∈ ([] : List Addr) from z) (by simp)
  refine ⟨⟨e0.mod, S.kind, rfl, rfl, Nat.le_refl _, fun y z c h1 h2 => ?_, fun y hy => ?_, fun y c _ h => ?_, fun _ => hd, Around.frames_deeper e0.frames, .inr ⟨rfl, rfl⟩, fun b z => absurd z (noA b), e0.bs, e0.bsz, fun b _ _ => noA b, fun b z => absurd z (noA b), e0.funs, e0.frf⟩,
    rfl, e0.bare, Un.kept hk, ⟨_, x.toInCall.ns, fun i y v h1 h2 h3 => ?_⟩, fun y c h => ⟨_, x.cell y c h⟩, e0.hok.fresh (Nat.le_refl _), fun y c h => ?_, fun p hp => absurd (show p ∈ ([] : List (Addr × Obj)) from hp) (by simp), e0.hok.kept hk, ?_⟩
  · exact name_of_addr x.apart (PySem.mem_of_lookup h1) (PySem.mem_of_lookup h2)
  · have hy : scope.names.lookup y = some .cell ∨ scope.names.lookup y = some .free := hy
    rcases hy with hy | hy
    · exact cell_has hy
    · exact absurd rfl (S.nofree _ (PySem.mem_of_lookup hy))
  · exact Nat.le_of_lt (x.above y c (PySem.mem_of_lookup h))
  · have hi : i < vs.length := by
      unfold start at h2
      by_cases hi : i < vs.length
      · exact hi
      · rw [List.getElem?_append_right (by simpa using hi)] at h2
        rw [List.getElem?_replicate] at h2
        split at h2 <;> cases h2
    have ha : vs[i]? = some v := by
      unfold start at h2
      rw [List.getElem?_append_left (by simpa using hi), List.getElem?_map] at h2
      cases e : vs[i]? with
      | none => rw [e] at h2; cases h2
      | some a => rw [e] at h2; cases h2; rfl
    obtain ⟨u, hu, rv⟩ := r.get ha
    have hp : ps[i]? = some y := by
      rw [← S.pre, List.getElem?_take_of_lt (by omega)]; exact h1
    have ndP : ps.Nodup := by rw [← S.pre]; exact S.nd.sublist (List.take_sublist _ _)
    refine ⟨u, rv, ?_⟩
    rcases S.par y (List.mem_of_getElem? hp) with k | k
    · exact .inl ⟨k, bindL_get ndP hp hu k⟩
    · obtain ⟨c, e⟩ := cell_has (n := s.heap.objs.size + 1) k
      refine .inr ⟨.inl k, c, e, ?_⟩
      have q := x.cell y c e
      rw [bindC_get ndP hp hu (by show scope.names.lookup y ≠ _; rw [k]; decide)] at q
      exact q
  · exact e0.hok.fresh (Nat.le_of_lt (x.above y c (PySem.mem_of_lookup h)))
  · unfold start
    show _ = N.length
    rw [List.length_append, List.length_map, List.length_replicate]
    omega

theorem fn_of {CX : CXT} {P : Program} {w : World} {K : PySem.W.Frag} {mg : Str → Option Value} {base : Heap} {k : Nat} {f : Addr} {name qual : Str} {params : Arguments} {body : List Stmt} {scope : Scope} {dV kV doc pm cdv ct oc : Value} {an od : Option Addr}
    {osl : Array (Option Value)} {N ps : List Str} {sp : Sp} (lk : K.lookup f = some ⟨oc, od, .func (PySem.W.fnOf name qual params body scope dV kV doc pm an cdv ct), osl⟩) (hcd : PySem.W.codeIn K cdv qual = true) (S : FnScope N ps scope)
    (len : ∀ vs H Q E, sp vs H Q E → vs.length = ps.length)
    (hbody : ∀ (A : Around) (outer : List Env) (s : Shared) (H : Hp) (vs : List V) (Q : VK) (E : XK), Room k (A.deeper (envOfC qual scope s.heap.objs.size f cdv)) → sp vs H Q E →
      ∃ t, PSs (cxOf CX P w K mg base N qual scope f cdv A outer s H E) body t ∧ t { nx := fun _ H' => Q .non H', rt := Q } (start N vs) H) :
    FnOk P w K mg base CX (k + 1) f (PySem.W.fnOf name qual params body scope dV kV doc pm an cdv ct) ps sp := by
  refine ⟨len, fun A outer s H args us vs Q E hr e0 hb r hsp => ?_⟩
  have hl := len _ _ _ _ hsp
  have KX : K.In s.heap := e0.mod.kin.keeps fun b o e => (e0.bs b o e).1
  have lim : s.heap.NoLimit := e0.mod.nolimit.keeps fun b o e => (e0.bs b o e).1
  have hkind : ∀ y ∈ ps.zip us, scope.names.lookup y.1 = some .local ∨ (scope.names.lookup y.1 = some .cell ∧ ((cellsFrom (s.heap.objs.size + 1) scope.names []).lookup y.1).isSome = true) := fun ⟨n, v⟩ hy => by
    rcases S.par n (List.of_mem_zip hy).1 with q | q
    · exact .inl q
    · exact .inr ⟨q, PySem.W.cellsFrom_some _ _ _ (.inl q)⟩
  refine codeAny_call_function hr.depth (KX _ _ lk) rfl S.co S.gen rfl (PySem.W.codeRec_of KX hcd) (hb _ _ _ _ ?_)
  refine wpAny_newFunctionEnv_cells S.kind hkind fun env he s1 x => ?_
  subst he
  refine ⟨lim.keeps x.toInCall.keep, codeAny_func ?_⟩
  obtain ⟨t, ht, hq⟩ := hbody A outer s H vs Q E (hr.deeper _) hsp
  have I : Inv (cxOf CX P w K mg base N qual scope f cdv A outer s H E) [] (start N vs) H s1 := inv_start S hr.hd e0 hl r x
  refine wpAny_mono (ht [] s1 (start N vs) H _ I hq) (fun fl s' hs => ?_) fun e s' hs => hs
  have fin : ∀ {σ' : St} {H' : Hp} {v : V} {u : Value}, Inv (cxOf CX P w K mg base N qual scope f cdv A outer s H E) [] σ' H' s' → RelV v u → Q v H' → CE outer P w H s Q u s' :=
    fun {σ' H' v u} J rv q => ⟨v, H', J.os, J.bare, J.base, J.hok, rv, q⟩
  cases fl with
  | ret u =>
    obtain ⟨v, σ', H', J, rv, q⟩ := hs
    exact fin J rv q
  | next =>
    obtain ⟨σ', H', J, q⟩ := hs
    exact fin (v := V.non) (u := Value.none) J rfl q
  | brk =>
    obtain ⟨_, _, _, q⟩ := hs
    exact False.elim q
  | cont =>
    obtain ⟨_, _, _, q⟩ := hs
    exact False.elim q
end L2

namespace L2
open PySem PySem.Spec PyProof.Rows
section
variable {X : Cx} {x : Str} {p pos : Pos} {e : Expr} {es : List Expr} {t : TA} {id T : String} {r : List V → Hp → VK → Prop}

noncomputable def tCB (r : List V → Hp → VK → Prop) (t : TA) : TE := fun σ H Q => t σ H fun vs H1 => r vs H1 Q
theorem pe_callB (hc : CallR X (.builtin id) r) (hg : Gl X x) (hm : X.mg x = none) (hv : bootBuiltins x = some (.builtin id)) (ha : PA X (e :: es) t) (hn : x ≠ "__name__" := by decide) (hdb : (x == ("__debug__" : Str)) = false := by decide)
    (he : starEach (e :: es) X.env = (false, eval e X.env) :: starEach es X.env := by rfl) (hpl : (backTo pos (starEach es X.env)).any (·.1) = false := by rfl) : PE X (.Call (.Name x p) (e :: es) [] pos) (tCB r t) := by
  intro pins s σ H Q I h
  refine wpAny_Call_Name_kw (ld_blt I hg hm hv ?_ hn hdb)
  exact PyProof.Rows.callWith_builtin1 (thn (ha pos pins s σ H _ I h) fun us s1 ⟨vs, H1, I1, r1, q1⟩ => hc pins s1 σ H1 vs us Q I1 r1 q1) he hpl
theorem pe_callTy (hc : CallR X (.type T) r) (hg : Gl X x) (hm : X.mg x = none) (hv : bootBuiltins x = some (.type T)) (ha : PA X (e :: es) t) (hn : x ≠ "__name__" := by decide) (hdb : (x == ("__debug__" : Str)) = false := by decide)
    (he : starEach (e :: es) X.env = (false, eval e X.env) :: starEach es X.env := by rfl) (hpl : (backTo pos (starEach es X.env)).any (·.1) = false := by rfl) : PE X (.Call (.Name x p) (e :: es) [] pos) (tCB r t) := by
  intro pins s σ H Q I h
  refine wpAny_Call_Name_kw (ld_blt I hg hm hv ?_ hn hdb)
  exact PyProof.Rows.callWith_type1 (thn (ha pos pins s σ H _ I h) fun us s1 ⟨vs, H1, I1, r1, q1⟩ => hc pins s1 σ H1 vs us Q I1 r1 q1) he hpl
end
end L2

namespace HT
open PySem PyProof.Rows

section
open PySem.SeqAt
open PySem.AutoSeq1 (wpAny_loadPart')
open PySem.MeetsSeq PySem.MeetsSeq2 PySem.MeetsSeq3

end

section
variable {prog : Program} {w : World} {A : Around} {E : Value → Shared → Prop} {s : Shared}

noncomputable def sIx (n d : Nat) : Option Int → Nat
  | none => d
  | some v => if v < 0 then (v + (n : Int)).toNat else min v.toNat n
theorem sIx_none (n d : Nat) : sIx n d none = d := rfl
theorem sIx_nat (n d k : Nat) : sIx n d (some (k : Int)) = min k n := by
  show (if (k : Int) < 0 then ((k : Int) + (n : Int)).toNat else min (k : Int).toNat n) = min k n
  rw [if_neg (by omega), Int.toNat_natCast]
end
end HT

namespace L2
open PySem PySem.Spec PyProof.Rows

noncomputable abbrev TO := St → Hp → (Option Int → Hp → Prop) → Prop
noncomputable def PO (X : Cx) (e : Option Expr) (t : TO) : Prop :=
  ∀ (pins : List (Addr × Obj)) (s : Shared) (σ : St) (H : Hp) (Q : Option Int → Hp → Prop), Inv X pins σ H s → t σ H Q →
    wpAny (model X.prog X.w) X.A (evalPart e X.env) (fun u s' => ∃ o H', Inv X pins σ H' s' ∧ IsPart u o ∧ Q o H') X.xe s
noncomputable def tNoPart : TO := fun _ H Q => Q none H
noncomputable def tPart (t : TE) : TO := fun σ H Q => t σ H fun x H1 => ∃ i, x = .int i ∧ Q (some i) H1

section
variable {X : Cx} {e : Expr} {te : TE} {lo hi : Option Expr} {tl th : TO} {pos p2 : Pos}

theorem po_none : PO X none tNoPart := by
  intro pins s σ H Q I h
  rw [evalPart_none]
  exact wpAny_pure ⟨none, H, I, .none, h⟩
theorem po_some (h : PE X e te) : PO X (some e) (tPart te) := by
  intro pins s σ H Q I hw
  rw [evalPart_some]
  refine thn (h pins s σ H _ I hw) fun u s1 ⟨x, H1, I1, r1, q1⟩ => ?_
  obtain ⟨i, rfl, q⟩ := q1
  obtain ⟨t, rfl⟩ := r1
  exact ⟨some i, H1, I1, .int i t, q⟩

noncomputable def SlR (X : Cx) (r : V → Option Int → Option Int → Hp → VK → Prop) : Prop :=
  ∀ (pins : List (Addr × Obj)) (s : Shared) (σ : St) (H : Hp) (x : V) (v vl vu : Value) (lo hi : Option Int) (sl : Addr) (Q : VK), Inv X pins σ H s → RelV x v → s.heap.IsSliceOf sl vl vu .none → IsPart vl lo → IsPart vu hi → r x lo hi H Q →
    ∃ T id, typeLookup (.type T) "__getitem__" = pure (some (.builtin id)) ∧ s.TypeIs v T ∧ wpAny (model X.prog X.w) X.A (getItem v (.ref sl)) (EP X pins σ Q) X.xe s
noncomputable def tSl (r : V → Option Int → Option Int → Hp → VK → Prop) (te : TE) (tl th : TO) : TE := fun σ H Q => te σ H fun x H1 => tl σ H1 fun l H2 => th σ H2 fun u H3 => r x l u H3 Q
theorem pe_slice {r : V → Option Int → Option Int → Hp → VK → Prop} (hr : SlR X r) (he : PE X e te) (hl : PO X lo tl) (hu : PO X hi th) : PE X (.Subscript e (.Slice lo hi none p2) pos) (tSl r te tl th) := by
  intro pins s σ H Q I h
  refine Subscript_ (thn (he pins s σ H _ I h) fun v s1 ⟨x, H1, I1, r1, q1⟩ => ?_)
  refine wpAny_Slice (thn (hl pins s1 σ H1 _ I1 q1) fun vl s2 ⟨l, H2, I2, pl, q2⟩ => thn (hu pins s2 σ H2 _ I2 q2) fun vu s3 ⟨u, H3, I3, pu, q3⟩ => ?_)
  rw [evalPart_none]
  refine wpAny_pure ?_
  have I4 : Inv X pins σ H3 { s3 with heap := s3.heap.push { cls := .type "slice", data := .fields #[vl, vu, .none] } } := I3.kept (t' := s3.toks) fun b ob q => Heap.get?_push_of_some _ q
  obtain ⟨T, id, hT, ht, hg⟩ := hr pins { s3 with heap := s3.heap.push { cls := .type "slice", data := .fields #[vl, vu, .none] } } σ H3 x v vl vu l u s3.heap.objs.size Q I4 r1 (Heap.IsSliceOf.new ..) pl pu q3
  show wpAny (model X.prog X.w) X.A (subscriptTail e (.Slice lo hi none p2) v (.ref s3.heap.objs.size)) (EP X pins σ Q) X.xe { s3 with heap := s3.heap.push { cls := .type "slice", data := .fields #[vl, vu, .none] } }
  exact tail_any (ops := [.ref s3.heap.objs.size, v]) ht hT hg (by with_unfolding_all rfl)

noncomputable def cutV (xs : List V) (lo hi : Option Int) : List V := (xs.drop (HT.sIx xs.length 0 lo)).take (HT.sIx xs.length xs.length hi - HT.sIx xs.length 0 lo)
theorem cutV_length (xs : List V) (lo hi : Option Int) : (cutV xs lo hi).length ≤ xs.length := by
  unfold cutV
  rw [List.length_take, List.length_drop]
  omega
end
end L2

namespace L2
open PySem PySem.Spec PyProof.Rows

noncomputable def ixN (n : Nat) (i : Int) : Option Nat := if 0 ≤ i then (if i < n then some i.toNat else none) else if -(n : Int) ≤ i then some (i + n).toNat else none
noncomputable def atI {α : Type} (xs : List α) (i : Int) : Option α := (ixN xs.length i).bind fun j => xs[j]?
theorem ixN_seq {n : Nat} {i : Int} {j : Nat} (h : ixN n i = some j) : seqIndex? i n = some j ∧ j < n ∧ -(n : Int) ≤ i ∧ i < n := by
  unfold ixN at h
  by_cases h0 : 0 ≤ i
  · rw [if_pos h0] at h
    by_cases h1 : i < n
    · rw [if_pos h1] at h
      have e : i.toNat = j := Option.some.inj h
      exact ⟨by rw [seqIndex_of h0 h1, e], by omega, by omega, h1⟩
    · rw [if_neg h1] at h; cases h
  · rw [if_neg h0] at h
    by_cases h1 : -(n : Int) ≤ i
    · rw [if_pos h1] at h
      have e : (i + n).toNat = j := Option.some.inj h
      exact ⟨by rw [seqIndex_neg (by omega) h1, e], by omega, h1, by omega⟩
    · rw [if_neg h1] at h; cases h
theorem atI_get {α : Type} {xs : List α} {i : Int} {v : α} (h : atI xs i = some v) : ∃ j, seqIndex? i xs.length = some j ∧ xs[j]? = some v ∧ j < xs.length ∧ -(xs.length : Int) ≤ i ∧ i < xs.length := by
  unfold atI at h
  cases e : ixN xs.length i with
  | none => rw [e] at h; cases h
  | some j =>
    rw [e] at h
    obtain ⟨h1, h2, h3, h4⟩ := ixN_seq e
    exact ⟨j, h1, h, h2, h3, h4⟩
theorem atI_nat {α : Type} {xs : List α} {j : Nat} {v : α} (h : xs[j]? = some v) : atI xs (j : Int) = some v := by
  have hj : j < xs.length := (List.getElem?_eq_some_iff.mp h).1
  have e : ixN xs.length (j : Int) = some j := by
    unfold ixN
    rw [if_pos (by omega), if_pos (by omega)]; simp
  unfold atI; rw [e]; exact h
noncomputable def PlainIx (b : Expr) : Prop := ∀ o i, subscripted b false o i = operate [o, i] (getItem o i)
noncomputable def IxR (X : Cx) (r : R2) : Prop :=
  ∀ (value slice : Expr) (pins : List (Addr × Obj)) (s : Shared) (σ : St) (H : Hp) (x y : V) (v u : Value) (Q : VK), Inv X pins σ H s → RelV x v → RelV y u → r x y H Q →
    subscripted slice false v u = operate [v, u] (getItem v u) → wpAny (model X.prog X.w) X.A (subscriptTail value slice v u) (EP X pins σ Q) X.xe s
noncomputable def MtR (X : Cx) (id : String) (r : V → List V → Hp → VK → Prop) : Prop :=
  ∀ (pins : List (Addr × Obj)) (s : Shared) (σ : St) (H : Hp) (x : V) (xs : List V) (v : Value) (us : List Value) (Q : VK), Inv X pins σ H s → RelV x v → Vals xs us → r x xs H Q →
    wpAny (model X.prog X.w) X.A (call (.builtin id) (v :: us)) (EP X pins σ Q) X.xe s
section
variable {X : Cx} {a b : Expr} {ta tb : TE} {pos : Pos}
theorem pe_ix {r : R2} (hr : IxR X r) (ha : PE X a ta) (hb : PE X b tb) (hs : PlainIx b) : PE X (.Subscript a b pos) (tOp r ta tb) := by
  intro pins s σ H Q I h
  exact Subscript_ (binT ha hb I h fun v u s2 x y H2 I2 rx ry q => hr a b pins s2 σ H2 x y v u Q I2 rx ry q (hs _ _))

noncomputable def rIxL (K : PySem.W.Frag) : R2 := fun x y H Q => ∃ p xs i v, x = .ref p ∧ y = .int i ∧ SqL K H p xs ∧ atI xs i = some v ∧ Q v H
noncomputable def rIxT (K : PySem.W.Frag) : R2 := fun x y H Q => ∃ p xs i v, x = .ref p ∧ y = .int i ∧ SqT K H p xs ∧ atI xs i = some v ∧ Q v H
noncomputable def rIxS : R2 := fun x y H Q => ∃ z i c, x = .str z ∧ y = .int i ∧ z.length ≤ sizeLine ∧ atI z.cps.toList i = some c ∧ Q (.str ⟨#[c]⟩) H
theorem ix_list : IxR X (rIxL X.K) := by
  intro value slice pins s σ H x y v u Q I rx ry h hs
  obtain ⟨p, xs, i, z, rfl, rfl, hq, he, q⟩ := h
  cases rx
  obtain ⟨t, rfl⟩ := ry
  obtain ⟨its, r, pl, hz⟩ := I.list hq
  obtain ⟨j, h1, h2, h3, h4, h5⟩ := atI_get he
  obtain ⟨w, ew, rw'⟩ := r.get h2
  have hl := r.length
  have hn := line63
  have fin : EP X pins σ Q w s := ⟨z, H, I, rw', q⟩
  by_cases h0 : 0 ≤ i
  · have hj : i.toNat = j := by
      rw [seqIndex_of h0 h5] at h1
      exact Option.some.inj h1
    exact item_listR pl.isList h0 (by omega) (by rw [hj]; simpa using ew) fin hs
  · have hj : (i + (its.toArray.size : Int)).toNat = j := by
      rw [seqIndex_neg (by omega) h4] at h1
      rw [List.size_toArray, ← hl]
      exact Option.some.inj h1
    exact subscriptTail_builtinR (x := w) pl.isList.typeIs slot_list_getitem.lookup
      (wpAny_getItem_list_neg (Q := fun r s' => r = w ∧ EP X pins σ Q r s') pl.isList (by omega) (by rw [List.size_toArray] <;> omega) (by omega) (by rw [hj]; simpa using ew) ⟨rfl, fin⟩) hs
theorem ix_tup : IxR X (rIxT X.K) := by
  intro value slice pins s σ H x y v u Q I rx ry h hs
  obtain ⟨p, xs, i, z, rfl, rfl, hq, he, q⟩ := h
  cases rx
  obtain ⟨t, rfl⟩ := ry
  obtain ⟨its, r, pl, hz⟩ := I.tuple hq
  obtain ⟨j, h1, h2, h3, h4, h5⟩ := atI_get he
  obtain ⟨w, ew, rw'⟩ := r.get h2
  have hl := r.length
  have hn := line63
  have fin : EP X pins σ Q w s := ⟨z, H, I, rw', q⟩
  exact subscriptTail_builtinR (x := w) pl.typeIs slot_tuple_getitem.lookup
    (getItem_tuple (j := j) (Q := fun r s' => r = w ∧ EP X pins σ Q r s') pl (by omega) (by omega) (by rw [List.size_toArray, ← hl]; exact h1) (by simpa using ew) ⟨rfl, fin⟩) hs
theorem ix_str : IxR X rIxS := by
  intro value slice pins s σ H x y v u Q I rx ry h hs
  obtain ⟨z, i, c, rfl, rfl, hz, he, q⟩ := h
  obtain ⟨t, rfl⟩ := rx
  obtain ⟨t', rfl⟩ := ry
  obtain ⟨j, h1, h2, h3, h4, h5⟩ := atI_get he
  have hl : z.cps.toList.length = z.length := by simp [Str.length]
  rw [hl] at h1 h4 h5
  have hn := line63
  exact tail_any (typeIs_str s z t) slot_str_getitem.lookup (getItem_str (c := c) (by
    have e1 : decide (i < -(2 ^ 63 : Int)) = false := decide_eq_false (by omega)
    have e2 : decide (i ≥ 2 ^ 63) = false := decide_eq_false (by omega)
    rw [e1, e2, Bool.or_false]) (by rw [h1]; simpa using h2) ⟨.str ⟨#[c]⟩, H, I.tok _, ⟨_, rfl⟩, q⟩) hs
theorem mapSeq_set (its : List Value) (n j : Nat) (u : Value) : Obj.mapSeq (·.setIfInBounds j u) { cls := .type "list", data := .seq its.toArray n } = { cls := .type "list", data := .seq (its.set j u).toArray n } := by
  simp [Obj.mapSeq]
theorem Inv.lst {pins : List (Addr × Obj)} {σ : St} {H : Hp} {s : Shared} {p : Addr} {xs : List V} (I : Inv X pins σ H s) (h : H p = some (.lst xs)) :
    ∃ (its : List Value) (n : Nat), Vals xs its ∧ s.heap.get? p = some { cls := .type "list", data := .seq its.toArray n } ∧ xs.length ≤ sizeLine := by
  obtain ⟨z, its, n, r, e⟩ := I.hok p _ h
  exact ⟨its, n, r, e, z⟩
theorem Inv.lstUpd {pins : List (Addr × Obj)} {σ : St} {H : Hp} {s : Shared} {p : Addr} {xs ys : List V} {its its' : List Value} {n n' : Nat} {f : Obj → Obj} (I : Inv X pins σ H s) (h : H p = some (.lst xs))
    (ho : s.heap.get? p = some { cls := .type "list", data := .seq its.toArray n }) (hf : f { cls := .type "list", data := .seq its.toArray n } = { cls := .type "list", data := .seq its'.toArray n' }) (r : Vals ys its') (hz : ys.length ≤ sizeLine) (t : Nat) :
    Inv X pins σ (upd H p (.lst ys)) { s with heap := s.heap.update p f, toks := t } := by
  have e : (s.heap.update p f).get? p = some { cls := .type "list", data := .seq its'.toArray n' } := by
    rw [Heap.get?_update_self f ho (by rw [hf] <;> rfl), hf]
  refine I.write (x := p) (e := p) (by rw [h]; trivial) (.inl rfl) (fun b u hb q => (Heap.get?_update_other _ _ (Ne.symm hb)).trans q) ⟨_, e⟩ ?_
  exact ⟨hz, its', n', r, e⟩
noncomputable def rSetL : V → V → V → Hp → (Hp → Prop) → Prop := fun o i v H Q => ∃ p xs k j, o = .ref p ∧ i = .int k ∧ H p = some (.lst xs) ∧ ixN xs.length k = some j ∧ Q (upd H p (.lst (xs.set j v)))
theorem set_list : PSet X rSetL := by
  intro pins s σ H o i v ov iv u Q I ro ri rv h
  obtain ⟨p, xs, k, j, rfl, rfl, hp, hj, q⟩ := h
  cases ro
  obtain ⟨t, rfl⟩ := ri
  obtain ⟨its, n, r, ho, hz⟩ := I.lst hp
  obtain ⟨h1, h2, h3, h4⟩ := ixN_seq hj
  have hl := r.length
  have hn := line63
  have I' : Inv X pins σ (upd H p (.lst (xs.set j v))) { s with heap := s.heap.update p (Obj.mapSeq (·.setIfInBounds j u)) } :=
    I.lstUpd hp ho (mapSeq_set its n j u) (r.set rv j) (by rw [List.length_set]; exact hz) s.toks
  by_cases h0 : 0 ≤ k
  · have hk : k.toNat = j := by
      rw [seqIndex_of h0 h4] at h1
      exact Option.some.inj h1
    exact PySem.W.ki_setAt ho h0 (by omega) (by rw [List.size_toArray, ← hl]; exact h4) (by rw [hk]; exact ⟨_, I', q⟩)
  · have hk : (k + (its.toArray.size : Int)).toNat = j := by
      rw [seqIndex_neg (by omega) h3] at h1
      rw [List.size_toArray, ← hl]
      exact Option.some.inj h1
    exact PySem.W.ki_setBack ho (by omega) (by rw [List.size_toArray, ← hl]; exact h3) (by omega) (by rw [hk]; exact ⟨_, I', q⟩)

theorem slice_bounds (lo hi : Option Int) (n : Nat) : (sliceBounds lo hi none n).1 = ((HT.sIx n 0 lo : Nat) : Int) ∧ (sliceBounds lo hi none n).2.1 = ((HT.sIx n n hi : Nat) : Int) ∧ (sliceBounds lo hi none n).2.2 = 1 := by
  refine ⟨?_, ?_, rfl⟩
  · cases lo with
    | none => simp [sliceBounds, HT.sIx]
    | some i =>
      simp only [sliceBounds, HT.sIx, Option.getD_none, show (1 : Int) > 0 by decide, if_true]
      by_cases h : i < 0
      · simp only [h, if_true] <;> omega
      · simp only [h, if_false] <;> omega
  · cases hi with
    | none => simp [sliceBounds, HT.sIx]
    | some i =>
      simp only [sliceBounds, HT.sIx, Option.getD_none, show (1 : Int) > 0 by decide, if_true]
      by_cases h : i < 0
      · simp only [h, if_true] <;> omega
      · simp only [h, if_false] <;> omega
theorem slicePick_cut (its : List Value) (lo hi : Option Int) : slicePick its.toArray lo hi none = ((its.drop (HT.sIx its.length 0 lo)).take (HT.sIx its.length its.length hi - HT.sIx its.length 0 lo)).toArray := by
  obtain ⟨h1, h2, h3⟩ := slice_bounds lo hi its.toArray.size
  unfold slicePick
  rw [h1, h2, h3]
  simp only [sliceRange_one, pick_run, List.size_toArray] <;> rfl
noncomputable def rSlL (K : PySem.W.Frag) : V → Option Int → Option Int → Hp → VK → Prop := fun x lo hi H Q => ∃ a xs, x = .ref a ∧ SqL K H a xs ∧ ∀ p, H p = none → Q (.ref p) (upd H p (.lst (cutV xs lo hi)))
theorem sl_list : SlR X (rSlL X.K) := by
  intro pins s σ H x v vl vu lo hi sl Q I rx hs pl pu h
  obtain ⟨a, xs, rfl, hx, q⟩ := h
  cases rx
  obtain ⟨its, r, ht, hz⟩ := I.list hx
  have hlen := r.length
  refine ⟨"list", _, slot_list_getitem.lookup, ht.isList.typeIs, ?_⟩
  refine wpAny_getItem_list_slice ht.isList hs pl pu .none (by simp) ?_ (by rw [List.size_toArray] <;> omega)
  rw [slicePick_cut, ← hlen]
  refine ⟨.ref s.heap.objs.size, _, I.laid (t' := s.toks) (o := .lst (cutV xs lo hi)) (fun b ob q => Heap.get?_push_of_some _ q) (Nat.le_refl _) ?_, rfl, q _ (I.hok.fresh (Nat.le_refl _))⟩
  exact ⟨Nat.le_trans (cutV_length xs lo hi) hz, _, 0, (r.drop (HT.sIx xs.length 0 lo)).take (HT.sIx xs.length xs.length hi - HT.sIx xs.length 0 lo), Heap.get?_push_size _ rfl⟩

noncomputable def flatV : V → Bool
  | .non => true
  | .bl _ => true
  | .int _ => true
  | .str _ => true
  | _ => false
noncomputable def eqV : V → V → Bool
  | .non, .non => true
  | .bl a, .bl b => a == b
  | .bl a, .int b => (if a then 1 else 0) == b
  | .int a, .bl b => a == (if b then 1 else 0)
  | .int a, .int b => a == b
  | .str a, .str b => a == b
  | _, _ => false
theorem eqAt_V {A : Around} {s : Shared} {y x : V} {u v : Value} (ry : RelV y u) (rx : RelV x v) (fy : flatV y = true) (fx : flatV x = true) : SeqAt.EqAt A s u v (eqV y x) := by
  cases y with
  | non =>
    cases ry
    cases x with
    | non => cases rx; exact SeqAt.EqAt.same _
    | bl b => cases rx; exact SeqAt.EqAt.none_bool b
    | int b => obtain ⟨t, rfl⟩ := rx; exact SeqAt.EqAt.none_int b t
    | str b => obtain ⟨t, rfl⟩ := rx; exact SeqAt.EqAt.none_str b t
    | _ => exact absurd (show false = true from fx) Bool.false_ne_true
  | bl a =>
    cases ry
    cases x with
    | non => cases rx; exact SeqAt.EqAt.bool_none a
    | bl b => cases rx; exact SeqAt.EqAt.bool_bool a b
    | int b => obtain ⟨t, rfl⟩ := rx; exact SeqAt.EqAt.bool_int a b t
    | str b => obtain ⟨t, rfl⟩ := rx; exact SeqAt.EqAt.bool_str a b t
    | _ => exact absurd (show false = true from fx) Bool.false_ne_true
  | int a =>
    obtain ⟨t', rfl⟩ := ry
    cases x with
    | non => cases rx; exact SeqAt.EqAt.int_none a t'
    | bl b => cases rx; exact SeqAt.EqAt.int_bool a t' b
    | int b => obtain ⟨t, rfl⟩ := rx; exact SeqAt.EqAt.int_int a t' b t
    | str b => obtain ⟨t, rfl⟩ := rx; exact SeqAt.EqAt.int_str a t' b t
    | _ => exact absurd (show false = true from fx) Bool.false_ne_true
  | str a =>
    obtain ⟨t', rfl⟩ := ry
    cases x with
    | non => cases rx; exact SeqAt.EqAt.str_none a t'
    | bl b => cases rx; exact SeqAt.EqAt.str_bool a t' b
    | int b => obtain ⟨t, rfl⟩ := rx; exact SeqAt.EqAt.str_int a t' b t
    | str b => obtain ⟨t, rfl⟩ := rx; exact SeqAt.EqAt.str_str a t' b t
    | _ => exact absurd (show false = true from fx) Bool.false_ne_true
  | _ => exact absurd (show false = true from fy) Bool.false_ne_true
noncomputable def eqU (x : V) (u : Value) : Bool := match u with
  | .none => eqV .non x
  | .bool b => eqV (.bl b) x
  | .int i _ => eqV (.int i) x
  | .str z _ => eqV (.str z) x
  | _ => false
theorem eqU_of {x y : V} {u : Value} (r : RelV y u) (f : flatV y = true) : eqU x u = eqV y x := by
  cases y with
  | non => cases r; rfl
  | bl b => cases r; rfl
  | int i => obtain ⟨t, rfl⟩ := r; rfl
  | str z => obtain ⟨t, rfl⟩ := r; rfl
  | _ => exact absurd (show false = true from f) Bool.false_ne_true
theorem any_eqU {x : V} : ∀ {xs : List V} {us : List Value}, Vals xs us → xs.all flatV = true → us.any (eqU x) = xs.any fun y => eqV y x
  | _, _, .nil, _ => rfl
  | y :: xs, u :: us, .cons r t, f => by
    rw [List.all_cons, Bool.and_eq_true] at f
    rw [List.any_cons, List.any_cons, eqU_of r f.1, any_eqU t f.2]
theorem mem_eqAt {A : Around} {s : Shared} {x : V} {v : Value} (rx : RelV x v) (fx : flatV x = true) : ∀ {xs : List V} {us : List Value}, Vals xs us → xs.all flatV = true → ∀ u ∈ us, SeqAt.EqAt A s u v (eqU x u)
  | _, _, .nil, _ => fun u hu => by cases hu
  | y :: xs, u :: us, .cons r t, f => fun u' hu => by
    rw [List.all_cons, Bool.and_eq_true] at f
    rcases List.mem_cons.mp hu with rfl | hu
    · rw [eqU_of r f.1]; exact eqAt_V r rx f.1 fx
    · exact mem_eqAt rx fx t f.2 u' hu
noncomputable def inV (x : V) (xs : List V) : Bool := xs.any fun y => eqV y x
noncomputable def rIn (K : PySem.W.Frag) (neg : Bool) : R2 := fun x y H Q => ∃ p xs, y = .ref p ∧ (SqL K H p xs ∨ SqT K H p xs) ∧ flatV x = true ∧ xs.all flatV = true ∧ Q (.bl (if neg then !inV x xs else inV x xs)) H
theorem op_in_seq : OpR X (compareOp .In) (rIn X.K false) := by
  intro pins s σ H x y v u Q I rx ry h
  obtain ⟨p, xs, rfl, hq, fx, fs, q⟩ := h
  cases ry
  rcases hq with hq | hq
  · obtain ⟨its, r, pl, hz⟩ := I.list hq
    refine SeqAt.in_listAt (eqU x) pl.isList (fun w hw => mem_eqAt rx fx r fs w (by simpa using hw)) ⟨.bl _, H, I, rfl, ?_⟩
    rw [show its.toArray.any (eqU x) = its.any (eqU x) by simp, any_eqU r fs]
    exact q
  · obtain ⟨its, r, pl, hz⟩ := I.tuple hq
    refine SeqAt.in_tupleAt (eqU x) pl (fun w hw => mem_eqAt rx fx r fs w (by simpa using hw)) ⟨.bl _, H, I, rfl, ?_⟩
    rw [show its.toArray.any (eqU x) = its.any (eqU x) by simp, any_eqU r fs]
    exact q
theorem op_notIn_seq : OpR X (compareOp .NotIn) (rIn X.K true) := by
  intro pins s σ H x y v u Q I rx ry h
  obtain ⟨p, xs, rfl, hq, fx, fs, q⟩ := h
  cases ry
  rcases hq with hq | hq
  · obtain ⟨its, r, pl, hz⟩ := I.list hq
    refine SeqAt.notIn_listAt (eqU x) pl.isList (fun w hw => mem_eqAt rx fx r fs w (by simpa using hw)) ⟨.bl _, H, I, rfl, ?_⟩
    rw [show its.toArray.any (eqU x) = its.any (eqU x) by simp, any_eqU r fs]
    exact q
  · obtain ⟨its, r, pl, hz⟩ := I.tuple hq
    refine SeqAt.notIn_tupleAt (eqU x) pl (fun w hw => mem_eqAt rx fx r fs w (by simpa using hw)) ⟨.bl _, H, I, rfl, ?_⟩
    rw [show its.toArray.any (eqU x) = its.any (eqU x) by simp, any_eqU r fs]
    exact q
theorem call_len_seq : CallR X (.builtin "len") (fun xs H Q => ∃ p ys, xs = [.ref p] ∧ (SqL X.K H p ys ∨ SqT X.K H p ys) ∧ Q (.int ys.length) H) := by
  intro pins s σ H xs us Q I r h
  obtain ⟨p, ys, rfl, hq, q⟩ := h
  obtain ⟨u, rfl, rx⟩ := vals1 r
  cases rx
  have hn := line63
  rcases hq with hq | hq
  · obtain ⟨its, r', pl, hz⟩ := I.list hq
    have hlen := r'.length
    exact Calls.call_len_list pl.isList (by simp only [List.size_toArray] <;> omega) ⟨.int ys.length, H, I.tok _, ⟨s.toks + 1, by rw [List.size_toArray, hlen]⟩, q⟩
  · obtain ⟨its, r', pl, hz⟩ := I.tuple hq
    have hlen := r'.length
    exact len_tuple pl (by simp only [List.size_toArray] <;> omega) ⟨.int ys.length, H, I.tok _, ⟨s.toks + 1, by rw [List.size_toArray, hlen]⟩, q⟩
theorem call_len_str : CallR X (.builtin "len") (fun xs H Q => ∃ z, xs = [.str z] ∧ z.length ≤ sizeLine ∧ Q (.int z.length) H) := by
  intro pins s σ H xs us Q I r h
  obtain ⟨z, rfl, hz, q⟩ := h
  obtain ⟨u, rfl, t, rfl⟩ := vals1 r
  have hn := line63
  exact len_str (by omega) ⟨.int z.length, H, I.tok _, ⟨_, rfl⟩, q⟩
theorem call_list_of : CallR X (.type "list") (fun xs H Q => ∃ p ys, xs = [.ref p] ∧ (SqL X.K H p ys ∨ SqT X.K H p ys) ∧ ∀ l, H l = none → Q (.ref l) (upd H l (.lst ys))) := by
  intro pins s σ H xs us Q I r h
  obtain ⟨p, ys, rfl, hq, q⟩ := h
  obtain ⟨u, rfl, rx⟩ := vals1 r
  cases rx
  have fin : ∀ (its : List Value), Vals ys its → ys.length ≤ sizeLine → ∀ (h' : Heap) (c' : Nat), (∀ b o', s.heap.get? b = some o' → h'.get? b = some o') →
      h'.get? s.heap.objs.size = some { cls := .type "list", dict := none, data := .seq its.toArray c', slots := #[] } → EP X pins σ Q (.ref s.heap.objs.size) { s with heap := h' } := fun its r' hz h' c' kp e =>
    ⟨.ref s.heap.objs.size, _, I.laid (t' := s.toks) kp (Nat.le_refl _) (show ObjOk X.prog X.w _ h' _ (.lst ys) from ⟨hz, its, c', r', e⟩), rfl, q _ (I.hok.fresh (Nat.le_refl _))⟩
  rcases hq with hq | hq
  · obtain ⟨its, r', pl, hz⟩ := I.list hq
    have hlen := r'.length
    obtain ⟨o, ho, hc, n, hd⟩ := pl.isList
    exact call_list_seq p (.inl rfl) ho hc hd (fun h' c' kp e => fin its r' hz h' c' kp e) (by simp only [List.size_toArray] <;> omega)
  · obtain ⟨its, r', pl, hz⟩ := I.tuple hq
    have hlen := r'.length
    obtain ⟨o, ho, hc, n, hd⟩ := pl
    exact call_list_seq p (.inr rfl) ho hc hd (fun h' c' kp e => fin its r' hz h' c' kp e) (by simp only [List.size_toArray] <;> omega)
theorem call_tuple_of : CallR X (.type "tuple") (fun xs H Q => ∃ p ys, xs = [.ref p] ∧ ((SqL X.K H p ys ∧ ∀ l, H l = none → Q (.ref l) (upd H l (.tup ys))) ∨ (SqT X.K H p ys ∧ Q (.ref p) H))) := by
  intro pins s σ H xs us Q I r h
  obtain ⟨p, ys, rfl, h⟩ := h
  obtain ⟨u, rfl, rx⟩ := vals1 r
  cases rx
  rcases h with ⟨hq, q⟩ | ⟨hq, q⟩
  · obtain ⟨its, r', pl, hz⟩ := I.list hq
    have hlen := r'.length
    refine call_tuple_list pl.isList (fun h' kp => ?_) (by simp only [List.size_toArray] <;> omega)
    have I1 : Inv X pins σ H { s with heap := h' } := I.kept (t' := s.toks) kp
    have I2 : Inv X pins σ (upd H h'.objs.size (.tup ys)) { s with heap := h'.push { cls := .type "tuple", data := .seq its.toArray } } :=
      I1.laid (t' := s.toks) (fun b o e => Heap.get?_push_of_some _ e) (Nat.le_refl _) (show ObjOk X.prog X.w _ _ _ (.tup ys) from ⟨hz, its, r', IsTup.new _ _⟩)
    exact ⟨.ref h'.objs.size, _, I2, rfl, q _ (I1.hok.fresh (Nat.le_refl _))⟩
  · obtain ⟨its, r', pl, hz⟩ := I.tuple hq
    exact call_tuple_same pl ⟨.ref p, H, I, rfl, q⟩

noncomputable def tyV (K : PySem.W.Frag) (T : String) (x : V) (H : Hp) : Prop := match x with
  | .str _ => T = "str"
  | .int _ => T = "int"
  | .ref p => (T = "list" ∧ ∃ xs, SqL K H p xs) ∨ (T = "tuple" ∧ ∃ o, K.lookup p = some o ∧ o.cls = .type "tuple" ∧ o.dict = none) ∨
      (T = "dict" ∧ ((∃ kvs, H p = some (.dK kvs)) ∨ ∃ kvs, H p = some (.dT kvs))) ∨ (T = "set" ∧ ∃ S n, H p = some (.set S n))
  | _ => False
theorem tyV_is {pins : List (Addr × Obj)} {σ : St} {H : Hp} {s : Shared} {T : String} {x : V} {v : Value} (I : Inv X pins σ H s) (r : RelV x v) (ty : tyV X.K T x H) :
    s.TypeIs v T ∧ ∀ a, v = .ref a → ∃ ob, s.heap.get? a = some ob ∧ ob.dict = none := by
  cases x with
  | str z =>
    obtain ⟨t, rfl⟩ := r
    cases (show T = "str" from ty)
    exact ⟨typeIs_str s z t, fun _ e => nomatch e⟩
  | int i =>
    obtain ⟨t, rfl⟩ := r
    cases (show T = "int" from ty)
    exact ⟨typeIs_int s i t, fun _ e => nomatch e⟩
  | ref p =>
    cases r
    rcases ty with ⟨rfl, xs, hq⟩ | ⟨rfl, o, hk, hc, hd⟩ | ⟨rfl, hk⟩ | ⟨rfl, S, n, hk⟩
    · obtain ⟨its, _, pl, _⟩ := I.list hq
      refine ⟨pl.isList.typeIs, fun a e => ?_⟩
      cases e
      obtain ⟨o, n, e, c, hd, _⟩ := pl
      exact ⟨o, e, hd⟩
    · refine ⟨⟨o, I.kIn p o hk, hc⟩, fun a e => ?_⟩
      cases e
      exact ⟨o, I.kIn _ o hk, hd⟩
    · have z : ∃ o, s.heap.get? p = some o ∧ o.ExactDict := by
        rcases hk with ⟨kvs, hk⟩ | ⟨kvs, hk⟩
        · obtain ⟨_, _, _, _, o, _, _, e, ex, _⟩ := I.hok p _ hk
          exact ⟨o, e, ex⟩
        · obtain ⟨_, _, _, _, o, _, _, e, ex, _⟩ := I.hok p _ hk
          exact ⟨o, e, ex⟩
      obtain ⟨o, e, ex⟩ := z
      refine ⟨⟨o, e, ex.1⟩, fun a e2 => ?_⟩
      cases e2
      exact ⟨o, e, ex.2.1⟩
    · obtain ⟨o, _, _, _, e, ex, _⟩ := I.hok p _ hk
      refine ⟨⟨o, e, ex.1⟩, fun a e2 => ?_⟩
      cases e2
      exact ⟨o, e, ex.2.1⟩
  | _ => exact False.elim ty
noncomputable def tBM0 (K : PySem.W.Frag) (T : String) (r : V → List V → Hp → VK → Prop) (to : TE) : TE := fun σ H Q => to σ H fun x H1 => tyV K T x H1 ∧ r x [] H1 Q
noncomputable def tBM (K : PySem.W.Frag) (T : String) (r : V → List V → Hp → VK → Prop) (to : TE) (t : TA) : TE := fun σ H Q => to σ H fun x H1 => tyV K T x H1 ∧ t σ H1 fun xs H2 => r x xs H2 Q
variable {o e : Expr} {es : List Expr} {to : TE} {t : TA} {name : Str} {apos cpos : Pos} {T id : String} {r : V → List V → Hp → VK → Prop}
theorem pe_bm0 (pa : PlainAttrs T) (slot : Slot T name id) (hty : typeOf (.builtin id) = pure (.type "method_descriptor")) (hm : MtR X id r) (ho : PE X o to)
    (hbase : attributeBase o name X.env (eval o X.env) = eval o X.env := by rfl) (hline : (apos.endLine == cpos.line) = true := by rfl) : PE X (.Call (.Attribute o name apos) [] [] cpos) (tBM0 X.K T r to) := by
  intro pins s σ H Q I h
  refine wpAny_Call_method0_late hbase hline (thn (ho pins s σ H _ I h) fun v s1 ⟨x, H1, I1, r1, ty, q1⟩ => ?_)
  obtain ⟨h1, h2⟩ := tyV_is I1 r1 ty
  exact ⟨T, id, pa, slot, hty, h1, h2, Calls.callWith_builtin rfl (PySem.evalArgs_none (hm pins s1 σ H1 x [] v [] Q I1 r1 .nil q1))⟩
theorem pe_bm (pa : PlainAttrs T) (slot : Slot T name id) (hty : typeOf (.builtin id) = pure (.type "method_descriptor")) (hm : MtR X id r) (ho : PE X o to) (ha : PA X (e :: es) t)
    (hbase : attributeBase o name X.env (eval o X.env) = eval o X.env := by rfl)
    (hfew : ((backTo cpos (starEach (e :: es) X.env)).all (fun x => !x.1) && (backToKw cpos (keywordEach [] X.env)).all (fun x => x.1.isSome)
      && decide ((e :: es).length + ([] : List Keyword).length + (if ([] : List Keyword).isEmpty then 0 else 1) < 30)) = true := by rfl)
    (hline : (apos.endLine == cpos.line) = true := by rfl) (hs : starEach (e :: es) X.env = (false, eval e X.env) :: starEach es X.env := by rfl) (hplain : (backTo cpos (starEach es X.env)).any (·.1) = false := by rfl) :
    PE X (.Call (.Attribute o name apos) (e :: es) [] cpos) (tBM X.K T r to t) := by
  intro pins s σ H Q I h
  refine wpAny_Call_method_late hbase hfew hline rfl (thn (ho pins s σ H _ I h) fun v s1 ⟨x, H1, I1, r1, ty, q1⟩ => ?_)
  obtain ⟨h1, h2⟩ := tyV_is I1 r1 ty
  refine ⟨T, id, pa, slot, hty, h1, h2, ?_⟩
  have hA := ha cpos pins s1 σ H1 _ I1 q1
  rw [hs] at hA ⊢
  refine Calls.callWith_builtin (by show (false || (backTo cpos (starEach es X.env)).any (·.1)) = false; rw [hplain] <;> rfl) (Calls.evalArgs_plain ?_)
  exact thn hA fun us s2 ⟨vs, H2, I2, r2, q2⟩ => hm pins s2 σ H2 x vs v us Q I2 r1 r2 q2
/- xs.append(e), list.index on a module's tuple .. are MtR facts of 06m -/
end
end L2

namespace L2
open PySem PySem.Spec PyProof.Rows

noncomputable def MtM (X : Cx) (id : String) (r : V → List V → Hp → VK → Prop) : Prop :=
  ∀ (pins : List (Addr × Obj)) (s : Shared) (σ : St) (H : Hp) (x : V) (xs : List V) (v : Value) (us : List Value) (Q : VK), Inv X pins σ H s → RelV x v → Vals xs us → r x xs H Q →
    wpAny (model X.prog X.w) X.A (call (.builtin id) (v :: us)) (EP X pins σ Q) X.xe s

theorem Vals.one : ∀ {x : V} {us : List Value}, Vals [x] us → ∃ u, us = [u] ∧ RelV x u
  | _, _, .cons r .nil => ⟨_, rfl, r⟩
theorem Vals.zero : ∀ {us : List Value}, Vals [] us → us = []
  | _, .nil => rfl
theorem Vals.rep {xs : List V} {us : List Value} (h : Vals xs us) : ∀ k : Nat, Vals (List.replicate k xs).flatten (List.replicate k us).flatten
  | 0 => .nil
  | k + 1 => by
    rw [List.replicate_succ, List.replicate_succ, List.flatten_cons, List.flatten_cons]
    exact Vals.append h (Vals.rep h k)
theorem foldl_rep (its : List Value) : ∀ (k : Nat) (acc : List Value),
    List.foldl (fun x1 x2 => x1 ++ x2) acc.toArray (List.replicate k its.toArray) = (acc ++ (List.replicate k its).flatten).toArray
  | 0, acc => by simp
  | k + 1, acc => by
    have e : acc.toArray ++ its.toArray = (acc ++ its).toArray := by simp
    have e2 : (acc ++ its) ++ (List.replicate k its).flatten = acc ++ (List.replicate (k + 1) its).flatten := by
      rw [List.replicate_succ, List.flatten_cons, List.append_assoc]
    rw [← e2, ← foldl_rep its k (acc ++ its), ← e, List.replicate_succ, List.foldl_cons]

section
variable {X : Cx} {pins : List (Addr × Obj)} {σ : St} {H : Hp} {s : Shared} {l b : Addr} {xs ys zs : List V}

theorem Inv.lset {its its' : List Value} {n : Nat} {f : Array Value → Array Value} {t' : Nat} (I : Inv X pins σ H s) (hH : H l = some (.lst xs))
    (e : s.heap.get? l = some { cls := .type "list", data := .seq its.toArray n }) (hf : f its.toArray = its'.toArray) (hv : Vals ys its') (hz : ys.length ≤ sizeLine) :
    Inv X pins σ (upd H l (.lst ys)) { s with heap := s.heap.update l (Obj.mapSeq f), toks := t' } := by
  have q := PySem.IsL.update e f
  rw [hf] at q
  refine I.write (x := l) (e := l) (by rw [hH]; exact trivial) (.inl rfl) (fun b' u hb hu => (Heap.get?_update_other s.heap (Obj.mapSeq f) (Ne.symm hb)).trans hu) ⟨_, q⟩ ?_
  exact ⟨hz, its', _, hv, q⟩
theorem Inv.lnew {its : List Value} {t' : Nat} (I : Inv X pins σ H s) (hv : Vals ys its) (hz : ys.length ≤ sizeLine) :
    Inv X pins σ (upd H s.heap.objs.size (.lst ys)) { s with heap := s.heap.push { cls := .type "list", data := .seq its.toArray }, toks := t' } :=
  I.laid (fun _ _ q => Heap.get?_push_of_some _ q) (Nat.le_refl _) ⟨hz, its, 0, hv, Heap.get?_push_size _ rfl⟩
theorem Inv.fresh (I : Inv X pins σ H s) : H s.heap.objs.size = none := I.hok.fresh (Nat.le_refl _)
theorem Inv.lstM (I : Inv X pins σ H s) (hH : H l = some (.lst xs)) : xs.length ≤ sizeLine ∧ ∃ (its : List Value) (n : Nat), Vals xs its ∧ xs.length = its.length ∧ s.heap.get? l = some { cls := .type "list", data := .seq its.toArray n } := by
  obtain ⟨z, its, n, r, e⟩ := I.hok l _ hH
  exact ⟨z, its, n, r, r.length, e⟩

theorem notLongL {n : Nat} (h : n ≤ sizeLine) : Builtin.List.listTooLong n = false := by
  unfold Builtin.List.listTooLong
  exact decide_eq_false (by omega)
end

section
variable {X : Cx}

noncomputable def rAppend : V → List V → Hp → VK → Prop := fun x vs H Q => ∃ l xs y, x = .ref l ∧ vs = [y] ∧ H l = some (.lst xs) ∧ xs.length < sizeLine ∧ Q .non (upd H l (.lst (xs ++ [y])))
theorem mt_append : MtM X "list.append" rAppend := by
  intro pins s σ H x vs v us Q I rx rv h
  obtain ⟨l, xs, y, rfl, rfl, hH, hz, q⟩ := h
  cases rx
  obtain ⟨u, rfl, ru⟩ := rv.one
  obtain ⟨z, its, n, r, hl, e⟩ := I.lstM hH
  refine call_meets F.slot_list_append ⟨_, e, rfl⟩ F.entry_list_append (F.args_list_append_2 _ _) (PySem.list_append l its.toArray n u (by rw [List.size_toArray]; omega)) ⟨e, ?_⟩
  refine ⟨.non, _, I.lset (its' := its ++ [u]) hH e (by simp) (r.append (.cons ru .nil)) ?_, rfl, q⟩
  rw [List.length_append, List.length_singleton]
  omega

noncomputable def rClear : V → List V → Hp → VK → Prop := fun x vs H Q => ∃ l xs, x = .ref l ∧ vs = [] ∧ H l = some (.lst xs) ∧ Q .non (upd H l (.lst []))
theorem mt_clear : MtM X "list.clear" rClear := by
  intro pins s σ H x vs v us Q I rx rv h
  obtain ⟨l, xs, rfl, rfl, hH, q⟩ := h
  cases rx
  have hus := rv.zero
  subst hus
  obtain ⟨z, its, n, r, hl, e⟩ := I.lstM hH
  refine call_meets F.slot_list_clear ⟨_, e, rfl⟩ F.entry_list_clear (F.args_list_clear_1 _) (AutoSeq1.list_clear_list_0 l its.toArray n (by rw [List.size_toArray]; omega)) ⟨e, ?_⟩
  exact ⟨.non, _, I.lset (its' := []) (ys := []) hH e rfl .nil (Nat.zero_le _), rfl, q⟩

noncomputable def rCat : R2 := fun x y H Q => ∃ l b xs zs, x = .ref l ∧ y = .ref b ∧ H l = some (.lst xs) ∧ H b = some (.lst zs) ∧ xs.length + zs.length ≤ sizeLine ∧ ∀ p, H p = none → Q (.ref p) (upd H p (.lst (xs ++ zs)))
theorem op_cat : OpR X (binaryOp .Add) rCat := by
  intro pins s σ H x y v u Q I rx ry h
  obtain ⟨l, b, xs, zs, rfl, rfl, hH, hB, hz, q⟩ := h
  cases rx
  cases ry
  obtain ⟨z, its, n, r, hl, e⟩ := I.lstM hH
  obtain ⟨z2, its2, n2, r2, hl2, e2⟩ := I.lstM hB
  refine PySem.P.add_list e e2 ?_ (by rw [List.size_toArray, List.size_toArray]; omega)
  have ea : its.toArray ++ its2.toArray = (its ++ its2).toArray := by simp
  rw [ea]
  exact ⟨.ref _, _, I.lnew (t' := s.toks) (r.append r2) (by rw [List.length_append]; omega), rfl, q _ I.fresh⟩
noncomputable def rRep : R2 := fun x y H Q => ∃ l k xs, x = .ref l ∧ y = .int k ∧ H l = some (.lst xs) ∧ -(2 ^ 63) ≤ k ∧ k < 2 ^ 63 ∧ xs.length * k.toNat ≤ sizeLine ∧
  ∀ p, H p = none → Q (.ref p) (upd H p (.lst (List.replicate k.toNat xs).flatten))
theorem len_rep {α : Type} (xs : List α) (k : Nat) : (List.replicate k xs).flatten.length = k * xs.length := by
  induction k with
  | zero => simp
  | succ k ih => rw [List.replicate_succ, List.flatten_cons, List.length_append, ih, Nat.succ_mul, Nat.add_comm]
theorem op_rep : OpR X (binaryOp .Mult) rRep := by
  intro pins s σ H x y v u Q I rx ry h
  obtain ⟨l, k, xs, rfl, rfl, hH, h1, h2, hz, q⟩ := h
  cases rx
  obtain ⟨t, rfl⟩ := ry
  obtain ⟨z, its, n, r, hl, e⟩ := I.lstM hH
  have hlen : its.toArray.size * k.toNat ≤ sizeLine := by rw [List.size_toArray, ← hl]; exact hz
  have hcap : ¬ its.toArray.size * k.toNat > (2 ^ 63 - 1) / 8 := by
    have : (sizeLine : Nat) ≤ (2 ^ 63 - 1) / 8 := by decide
    omega
  have hfit : ¬ (!Builtin.List.listFitsIndex k) = true := by
    rw [fitsIndex_both h1 h2]
    exact Bool.false_ne_true
  have hlong : ¬ Builtin.List.listTooLong (its.toArray.size * k.toNat) = true := by
    rw [notLongL hlen]
    exact Bool.false_ne_true
  have hnew : List.foldl (fun x1 x2 => x1 ++ x2) #[] (List.replicate (if its.toArray.isEmpty = true then 0 else k.toNat) its.toArray) = (List.replicate k.toNat its).flatten.toArray := by
    have f0 : ∀ m : Nat, List.foldl (fun x1 x2 => x1 ++ x2) #[] (List.replicate m its.toArray) = (List.replicate m its).flatten.toArray := fun m => by
      have := foldl_rep its m []
      rw [List.nil_append] at this
      exact this
    rw [f0]
    cases its with
    | nil => simp
    | cons a r' => rw [if_neg (by simp)]
  refine wpAny_binaryOp_repeat_ref (T := "list") (U := "int") (by decide) ⟨_, e, rfl⟩ (fun s' => typeIs_int s' k t) noFill_list_mul F.fills_int_mul F.slot_int_rmul repeat_list F.slot_int_index.lookup
    (call_meets F.slot_int_rmul (typeIs_int s k t) F.entry_int_rmul (F.args_int_rmul_2 _ _) (int___rmul___int_list k t l its.toArray n)
      ⟨e, rfl, ⟨_, e, rfl⟩, call_meets F.slot_list_mul ⟨_, e, rfl⟩ F.entry_list_mul (F.args_list_mul_2 _ _) (AutoListH.list___mul___list_int_3 l its.toArray n k t hfit hcap hlong) ⟨e, ?_⟩⟩)
  rw [hnew]
  exact ⟨.ref _, _, I.lnew (t' := s.toks) (r.rep k.toNat) (by rw [len_rep, Nat.mul_comm]; exact hz), rfl, q _ I.fresh⟩

end

section
variable {prog : Program} {w : World} {A : Around} {E : Value → Shared → Prop} {s : Shared}
end

section
variable {X : Cx}
end
end L2

namespace Att
open PySem PySem.W PySem.Calls PyProof.Rows

theorem ints_of_wellAll {P : Params} {h : Heap} : ∀ (ns : List Int) (vs : List Value), WellAll P h vs (ns.map WData.int) → IntsAre vs ns := by
  intro ns
  induction ns with
  | nil =>
    intro vs w
    rw [List.map_nil] at w
    cases w
    exact .nil
  | cons n ns ih =>
    intro vs w
    rw [List.map_cons] at w
    cases w with
    | cons a b =>
      cases a
      exact .cons _ _ (ih _ b)

theorem script_of {l : OpenLaw} {n : Nat} (hn : l.most = some n) {P : Params} {h : Heap} {args : List WData} {vals : List Value}
    (hpre : l.row.toRowW.claim.pre args = true) (hwl : WellAll P h vals args) :
    ∃ a vs ns, vals = [Value.ref a] ∧ args = [WData.list (ns.map WData.int)] ∧ h.get? a = some { cls := .type "list", data := .seq vs.toArray } ∧ IntsAre vs ns ∧ ns.length ≤ n := by
  have hsh : WShape.hasAll [] args [.list .int] = true := (pre_splitW hpre).1
  have hc : l.pre.holds [] { args := args } = true := (pre_splitW hpre).2
  obtain ⟨d, r, rfl, h1, h2⟩ := hasAllW_cons hsh
  obtain rfl := hasAllW_nil h2
  obtain ⟨xs, rfl, h3⟩ := hasW_list h1
  obtain ⟨ns, rfl⟩ := items_int h3
  have hlen : ns.length ≤ n := by
    unfold OpenLaw.pre at hc
    have h4 : (WTm.not (.lt (.lit (.int (n : Int))) (.len (.arg 0)))).holds [] { args := [.list (ns.map .int)] } = true := by
      have h4 := (holds_andW hc).1
      rw [hn] at h4
      exact h4
    have h5 := condW_of h4 (w_not (w_lt w_lit (w_len_list (w_arg rfl))))
    rw [List.length_map] at h5
    refine Nat.le_of_not_lt fun q => ?_
    have q' : (n : Int) < ((ns.length : Nat) : Int) := by omega
    first
      | (rw [decide_eq_true q'] at h5; exact absurd h5 (by decide))
      | (simp at h5; omega)
  cases hwl with
  | cons w1 w2 =>
    cases w2
    cases w1 with
    | list ho hall => exact ⟨_, _, ns, rfl, rfl, ho, ints_of_wellAll ns _ hall, hlen⟩

theorem post_true (l : OpenLaw) (args : List WData) : l.row.toRowW.claim.post args (.bool true) args = true :=
  postW_of (r := l.row.toRowW) (X := (true == true))
    (show WShape.has [] (.bool true) .bool = true by first | rfl | decide | simp [WShape.has, WShape.arms, WShape.armsAll])
    (show (WTm.eq .res (.lit (.bool true))).value [] { args := args, res := some (.bool true), after := args } = some (.bool (true == true)) from w_eq_bool (w_res rfl) w_lit) rfl

theorem attach_call {l : OpenLaw} {n : Nat} {q : Program} {loose : List Str} {XP : (Str → Option Value) → Heap → Prop} {YP : World → Heap → Prop} {d : DefRec}
    (hn : l.most = some n) (hdf : d.params.defaults = [])
    (call : ∀ (w : World) (s₀ s₁ : Shared) (mg mb : Str → Option Value) (fa : Addr) (o : Obj) (pm cd doc : Value) (a : Addr) (vs : List Value) (ns : List Int),
      Ground q loose [] XP w s₀ mg mb s₁.heap → YP w s₁.heap →
      s₁.heap.get? fa = some o → o.data = .func (docDef d.name d.params d.body d.scope pm cd doc) → s₁.heap.CodeRec cd d.name → mg d.name = some (.ref fa) →
      s₁.heap.get? a = some { cls := .type "list", data := .seq vs.toArray } → IntsAre vs ns → ns.length ≤ n → s₁.gens = #[] →
      codeAny (model l.prog w) callerA (.call (.ref fa) ⟨[.ref a], []⟩) (fun r s' => r = .ok (.ret (.bool true)) ∧ OldK s₁.heap s'.heap ∧ s'.os = s₁.os ∧ AllBare s'.gens) s₁) :
    WalkO q loose XP YP l.row.toRowW d [] (fun f vs => PySem.call f vs) := by
  intro w s₀ s₁ mg mb G Y fa o pm cd doc dV kV ho hd hcd hD hmg hg args vals as hpre hlay hrd hwl hlo
  obtain rfl : dV = .none := Dflts.none hD hdf
  obtain rfl : kV = .none := Dflts.noKw hD
  obtain ⟨a, vs, ns, rfl, rfl, hobj, hints, hlen⟩ := script_of hn hpre hwl
  refine enter_call (codeAny_mono (call w s₀ s₁ mg mb fa o pm cd doc a vs ns G Y ho (fd_plain hd) hcd hmg hobj hints hlen hg) fun r s' hq => ?_)
  obtain ⟨rfl, h2, h3, h4⟩ := hq
  exact ⟨.inl ⟨.bool true, .bool true, [], rfl, fun _ => rfl, .bool true, post_true l _, fun _ => ⟨List.Pairwise.nil, fun _ hm => (nomatch hm)⟩⟩, h2, h3, h4⟩

section
variable {prog : Program} {w : World} {A : Around} {E : Value → Shared → Prop} {s : Shared} {K : Frag}

end
end Att

namespace L2
open PySem PySem.Spec PyProof.Rows

theorem vals_ints : ∀ {vs : List Value} {ns : List Int}, IntsAre vs ns → Vals (ns.map V.int) vs
  | _, _, .nil => .nil
  | _, _, .cons n t h => .cons ⟨t, rfl⟩ (vals_ints h)

noncomputable def Only (H : Hp) : Prop := ∀ b, H b = none ∨ ∃ o xs, H b = some (.frz o (.lst xs))

theorem law_call {P : Program} {w : World} {K : PySem.W.Frag} {mg mb : Str → Option Value} {CX : CXT} {k : Nat} {fa a : Addr} {fd : FuncData} {x : Str} {sp : Sp} {s₁ : Shared} {vs : List Value} {ns : List Int}
    (KX : K.In s₁.heap) (hns : s₁.heap.Ns mainGlobals mg) (hb : s₁.heap.Ns builtinsNs mb) (hbb : ∀ x : Str, x ≠ "__name__" → mb x = bootBuiltins x) (hlim : s₁.heap.NoLimit) (hg : s₁.gens = #[])
    (ha : s₁.heap.get? a = some { cls := .type "list", data := .seq vs.toArray }) (hi : IntsAre vs ns) (hl : ns.length ≤ sizeLine) (hr : Room k callerA)
    (F : ∀ base : Heap, K.In base → base.Ns mainGlobals mg → FnOk P w K mg base CX k fa fd [x] sp) (hbind : ∀ (s : Shared) (u : Value), BindsTo s fd ⟨[u], []⟩ [(x, u)])
    (hsp : ∀ H : Hp, Only H → SqL K H a (ns.map V.int) → sp [.ref a] H (fun v _ => v = .bl true) fun _ _ _ => False)
    (hCX : ∀ H e s', CX [] H s₁ (fun _ _ _ => False) e s' → False) :
    codeAny (model P w) callerA (.call (.ref fa) ⟨[.ref a], []⟩) (fun r s' => r = .ok (.ret (.bool true)) ∧ OldK s₁.heap s'.heap ∧ s'.os = s₁.os ∧ AllBare s'.gens) s₁ := by
  have rv := vals_ints hi
  have lenV := hi.length
  -- from an abstract heap in which nothing but the script may be tracked
  have core : ∀ H : Hp, Only H → SqL K H a (ns.map V.int) → HOk P w H s₁.heap → (∀ b, H b ≠ none → b = a) → (H a ≠ none → K.lookup a = none) →
      codeAny (model P w) callerA (.call (.ref fa) ⟨[.ref a], []⟩) (fun r s' => r = .ok (.ret (.bool true)) ∧ OldK s₁.heap s'.heap ∧ s'.os = s₁.os ∧ AllBare s'.gens) s₁ := by
    intro H hO hS hok hA hK
    have base_of : ∀ {b : Addr} {o : Obj}, s₁.heap.get? b = some o → H b = none → (hidT s₁.heap H).get? b = some o := fun e n => hidT_get e n
    have noA : ∀ {b : Addr} {o : Obj} {es : Array DictEntry} {ep : Nat}, s₁.heap.get? b = some o → o.data = .dict es ep → H b = none := fun {b o es ep} e d => by
      cases q : H b with
      | none => rfl
      | some u =>
        have e' : b = a := hA b (by rw [q]; simp)
        subst e'
        rw [ha] at e; cases e
        have d' : Data.seq vs.toArray _ = Data.dict es ep := d
        cases d'
    have nsK : ∀ {b : Addr} {m : Str → Option Value}, s₁.heap.Ns b m → (hidT s₁.heap H).Ns b m := fun {b m} ⟨o, es, ep, e, d, r⟩ => ⟨o, es, ep, base_of e (noA e d), d, r⟩
    have hKb : K.In (hidT s₁.heap H) := fun b o e => base_of (KX b o e) (by
      cases q : H b with
      | none => rfl
      | some u =>
        have e' : b = a := hA b (by rw [q]; simp)
        subst e'
        rw [hK (by rw [q]; simp)] at e; cases e)
    have hM : Mod K mg (hidT s₁.heap H) := ⟨hKb, nsK hns, ⟨mb, nsK hb, hbb⟩, let ⟨mc, h1, h2⟩ := hlim; ⟨mc, nsK h1, h2⟩⟩
    have e0 : Env0 P w K mg (hidT s₁.heap H) callerA [] s₁ H := ⟨rfl, hM, fun b o e => of_hidT e, Nat.le_of_eq (hidT_size _ _), trivial, fun b hb => absurd (show b ∈ ([] : List Addr) from hb) (by simp), hok, .of_eq hg⟩
    refine codeAny_mono ((F _ hKb (nsK hns)).run callerA [] s₁ H ⟨[.ref a], []⟩ [.ref a] [.ref a] _ _ hr e0 (hbind s₁ (.ref a)) (.cons rfl .nil) (hsp H hO hS)) fun r s' h => ?_
    cases r with
    | error e => exact (hCX H e s' h).elim
    | ok fl =>
      cases fl with
      | next => exact False.elim h
      | brk => exact False.elim h
      | cont => exact False.elim h
      | ret u =>
        obtain ⟨v, H', os, bare, un, hok', r', q⟩ := h
        have q' : v = .bl true := q
        subst q'
        obtain rfl : u = Value.bool true := r'
        refine ⟨rfl, OldK.of_keep fun b o e => ?_, os, bare⟩
        cases q : H b with
        | none => exact un.keep b o e q (by intro z; exact absurd (show b ∈ ([] : List Addr) from z) (by simp)) (by simp)
        | some u =>
          rcases hO b with z | ⟨ob, xs, z⟩
          · rw [q] at z; cases z
          · have z2 := un.frzs b ob _ z
            obtain ⟨e1, _⟩ := hok b _ z
            obtain ⟨e2, _⟩ := hok' b _ z2
            rw [e] at e1; cases e1
            exact e2
  cases hk : K.lookup a with
  | some o =>
    -- the script is one of the module's own objects
    have e := KX a o hk
    rw [ha] at e
    cases e
    refine core (fun _ => none) (fun _ => .inl rfl) (.inr ⟨_, vs.toArray, _, hk, rfl, rfl, rfl, by rw [List.size_toArray, lenV]; exact hl, by simpa using rv⟩) (fun b u z => by have z' : (none : Option HO) = some u := z; cases z') (fun b z => absurd rfl z) fun z => absurd rfl z
  | none =>
    refine core (fun b => if b = a then some (.frz { cls := .type "list", data := .seq vs.toArray } (.lst (ns.map V.int))) else none) (fun b => ?_) (.inl (.inr ⟨{ cls := .type "list", data := .seq vs.toArray }, if_pos rfl⟩)) (fun b u z => ?_) (fun b z => ?_) fun _ => hk
    · by_cases hb : b = a
      · exact .inr ⟨_, _, if_pos hb⟩
      · exact .inl (if_neg hb)
    · by_cases hb : b = a
      · have z' := (if_pos hb).symm.trans z
        cases z'
        subst hb
        exact ⟨ha, by rw [List.length_map]; exact hl, vs, _, rv, ha⟩
      · have z' := (if_neg hb).symm.trans z
        cases z'
    · by_cases hb : b = a
      · exact hb
      · exact absurd (if_neg hb) z
end L2

namespace L2
open PySem PySem.Spec PyProof.Rows

theorem walk_of {l : PySem.W.OpenLaw} {n k : Nat} {q : Program} {loose : List Str} {XP : (Str → Option Value) → Heap → Prop} {YP : World → Heap → Prop} {d : DefRec} {K : Params → PySem.W.Frag} {CX : World → CXT} {sp : World → Sp} {x : Str}
    (hn : l.most = some n) (hn2 : n ≤ sizeLine) (hdf : d.params.defaults = []) (hr : Room k callerA)
    (hY : ∀ (w : World) (h : Heap), YP w h → (K w.params).In h)
    (F : ∀ (w : World) (mg : Str → Option Value) (fa : Addr) (h : Heap), (K w.params).In h → h.Ns mainGlobals mg → mg d.name = some (.ref fa) →
      ∃ fd : FuncData, (∀ (s : Shared) (u : Value), BindsTo s fd ⟨[u], []⟩ [(x, u)]) ∧
        ∀ base : Heap, (K w.params).In base → base.Ns mainGlobals mg → FnOk l.prog w (K w.params) mg base (CX w) k fa fd [x] (sp w))
    (hsp : ∀ (w : World) (H : Hp) (a : Addr) (ns : List Int), ns.length ≤ n → Only H → SqL (K w.params) H a (ns.map V.int) → sp w [.ref a] H (fun v _ => v = .bl true) fun _ _ _ => False)
    (hCX : ∀ (w : World) (H : Hp) (s : Shared) (e : Value) (s' : Shared), CX w [] H s (fun _ _ _ => False) e s' → False) :
    PySem.W.WalkO q loose XP YP l.row.toRowW d [] (fun f vs => PySem.call f vs) := by
  refine Att.attach_call hn hdf fun w s₀ s₁ mg mb fa o pm cd doc a vs ns G Y ho hd hcd hmg hobj hints hlen hg => ?_
  have KX := hY w _ Y
  obtain ⟨fd, hb, hF⟩ := F w mg fa _ KX G.T.g hmg
  exact law_call KX G.T.g G.T.b G.T.builtins G.T.nolimit hg hobj hints (Nat.le_trans hlen hn2) hr hF hb (fun H hO hS => hsp w H a ns hlen hO hS) fun H e s' => hCX w H s₁ e s'
end L2

/- THE LAST THEOREM (shape; LID, My.* are yours):
   My.Adr: a structure of the addresses that your layer names (classes, functions); My.Txt K t: a structure (Prop) of the equations over K;
   My.txt_mk : {K} {implicit addresses ..} (e1 : nsIn K mainGlobals "law" = some (some (.ref f))) (e2 : K.lookup f = some ⟨oc, od, .func (fnOf "law" "law" params body scope dV kV doc pm an cdv ct), sl⟩) (e3 : codeIn K cdv "law" = true) .. : ∃ t, My.Txt K t

theorem PySem.Challenge.cw_LID_holds : PySem.Challenge.rw_LID.Holds := by
  w_on; o_law
  o_head (PySem.W.kHook Mine.myK [2, 3, 27, 28, 32, 33, 39, 40, 44, 45, 47, 48, 49, 50, 61, 62, 63, 74, 75, 90, 91, 93, 94, 109, 110, 112, 113, 128, 129, 131, 132, 138, 139, 143, 144, 150, 151, 155, 156, 162, 163, 169, 170, 176, 177, 183, 184, 190, 191, 197, 198, 202, 203, 216, 217, 223, 224, 230, 231, 233, 234, 235, 236, 251, 252, 258, 259, 265, 266, 268, 269, 284, 285, 291, 292, 298, 299, 301, 302, 317, 318, 324, 325, 331, 332, 338, 339, 341, 342, 357, 358, 364, 365, 371, 372, 378, 379, 381, 382, 397, 398, 404, 405, 411, 412, 418, 419, 421, 422, 437, 438, 444, 445, 447, 448, 456, 457, 463, 464, 470, 471, 477, 478, 484, 485, 491, 492, 498, 499, 505, 506, 512, 513, 519, 520, 526, 527, 533, 534, 540, 541, 545, 546, 550, 551, 557, 558, 562, 563, 567, 568, 572, 573, 579, 580, 586, 587, 591, 592, 598, 599, 605, 606, 612, 613, 617, 618, 622, 623, 629, 630, 636, 637, 641, 642, 646, 647, 651, 652] (fun _ => by kernel_rfl)); (case hw => w_witness2)
  k_fill
  refine L2.walk_of (l := PySem.Challenge.rw_LID) (n := 63) (k := 40) (x := "script") (CX := fun w => ..) (sp := fun _ => My.sp_law) rfl (by decide) rfl ⟨rfl, by decide, by decide⟩ (fun w h Y => PySem.W.kIn_of Y) ?F ?S ?C
  case F =>
    intro w mg fa h KX G hmg
    have T : ∃ t, My.Txt (L2.KOf KX) t := by
      dsimp only [L2.KOf]                          -- K must stand as «<heap const> w.params» for k_is
      refine' My.txt_mk ?e1 ?e2 ?e3 ..
      (case e1 => PySem.W.k_is)                    -- in the order: a name -> its address -> its object -> its parts
      (case e2 => PySem.W.k_is)
      ..
    obtain ⟨t, T⟩ := T
    have e0 := hmg.symm.trans (PySem.W.mg_of KX G T.law)
    cases e0                                       -- fa is the law's own address
    exact ⟨_, fun s u => .of_eq rfl, fun base kb nb => My.law_fn T kb nb⟩     -- if «.of_eq rfl» comes too early: refine' ⟨_, ?b, fun base kb nb => My.law_fn T kb nb⟩; exact fun s u => .of_eq rfl
  case S => exact fun w H a ns hl hO hS => ..
  case C => exact ..
(the tactic k_is has no namespace: write k_is) -/

namespace L2
open PySem PySem.Spec PyProof.Rows

noncomputable def inClass (s : Stmt) (j : Nat) : Stmt := match s with
  | .ClassDef _ _ _ body _ _ _ _ _ _ _ => body.getD j (.Pass ⟨0, 0, 0, 0⟩)
  | _ => .Pass ⟨0, 0, 0, 0⟩
noncomputable def defArgs (s : Stmt) : Arguments := match s with
  | .FunctionDef _ a _ _ _ _ _ _ _ _ => a
  | _ => { posonlyargs := [], args := [], vararg := none, kwonlyargs := [], kw_defaults := [], kwarg := none, defaults := [] }
noncomputable def defBody (s : Stmt) : List Stmt := match s with
  | .FunctionDef _ _ b _ _ _ _ _ _ _ => b
  | _ => []
noncomputable def defScope (s : Stmt) : Scope := match s with
  | .FunctionDef _ _ _ _ _ _ sc _ _ _ => sc
  | _ => { kind := .function, names := [], isGenerator := false, isCoroutine := false }

noncomputable abbrev CX0 : CXT := fun _ _ _ _ _ _ => False
noncomputable abbrev E0 : XK := fun _ _ _ => False
theorem pass0 {X : Cx} : Passes CX0 X E0 := fun _ _ _ _ _ _ _ h => h.elim

structure Fun (K : PySem.W.Frag) (x qual : Str) (st : Stmt) (f : Addr) (fd : FuncData) : Prop where
  ex : ∃ (oc : Value) (od : Option Addr) (kV doc pm : Value) (an : Option Addr) (cdv ct : Value) (osl : Array (Option Value)),
    fd = PySem.W.fnOf x qual (defArgs st) (defBody st) (defScope st) .none kV doc pm an cdv ct ∧ K.lookup f = some ⟨oc, od, .func fd, osl⟩ ∧ PySem.W.codeIn K cdv qual = true
  kp : PySem.W.keepIn K (.ref f) = true
section
variable {P : Program} {w : World} {K : PySem.W.Frag} {mg : Str → Option Value} {base : Heap}
theorem Fun.ok {x qual : Str} {st : Stmt} {f : Addr} {fd : FuncData} {N ps : List Str} {k : Nat} {sp : Sp} (F : Fun K x qual st f fd) (S : FnScope N ps (defScope st)) (len : ∀ vs H Q E, sp vs H Q E → vs.length = ps.length)
    (hbody : ∀ (cdv : Value) (A : Around) (outer : List Env) (s : Shared) (H : Hp) (vs : List V) (Q : VK) (E : XK), Room k (A.deeper (envOfC qual (defScope st) s.heap.objs.size f cdv)) → sp vs H Q E →
      ∃ t, PSs (cxOf CX0 P w K mg base N qual (defScope st) f cdv A outer s H E).nox (defBody st) t ∧ t { nx := fun _ H' => Q .non H', rt := Q } (start N vs) H) : FnOk P w K mg base CX0 (k + 1) f fd ps sp := by
  obtain ⟨oc, od, kV, doc, pm, an, cdv, ct, osl, rfl, lk, hcd⟩ := F.ex
  refine fn_of lk hcd S len fun A outer s H vs Q E hr hsp => ?_
  obtain ⟨t, h, q⟩ := hbody cdv A outer s H vs Q E hr hsp
  exact ⟨t, h.nox, q⟩
theorem Fun.binds {x qual : Str} {st : Stmt} {f : Addr} {fd : FuncData} {ps : List Str} (F : Fun K x qual st f fd)
    (h : ∀ (kV doc pm : Value) (an : Option Addr) (cdv ct : Value) (us : List Value), us.length = ps.length → bindArgs (PySem.W.fnOf x qual (defArgs st) (defBody st) (defScope st) .none kV doc pm an cdv ct) ⟨us, []⟩ = pure (ps.zip us)) : Binds K fd ps [] := by
  obtain ⟨oc, od, kV, doc, pm, an, cdv, ct, osl, rfl, lk, hcd⟩ := F.ex
  exact .all (h kV doc pm an cdv ct)
theorem fun_mk {x qual : Str} {st : Stmt} {f : Addr} {oc : Value} {od an : Option Addr} {osl : Array (Option Value)} {kV doc pm cdv ct : Value} (l : K.lookup f = some ⟨oc, od, .func (PySem.W.fnOf x qual (defArgs st) (defBody st) (defScope st) .none kV doc pm an cdv ct), osl⟩)
    (c : PySem.W.codeIn K cdv qual = true) (k : PySem.W.keepIn K (.ref f) = true) : Fun K x qual st f (PySem.W.fnOf x qual (defArgs st) (defBody st) (defScope st) .none kV doc pm an cdv ct) := ⟨⟨oc, od, kV, doc, pm, an, cdv, ct, osl, rfl, l, c⟩, k⟩
end
section
variable {X : Cx}
theorem pv (i : Nat) {x : Str} {pos : Pos} (hN : X.N[i]? = some x := by rfl) (hv : Vis X.env.scope x := by first | exact Or.inl rfl | exact Or.inr (Or.inl rfl) | exact Or.inr (Or.inr rfl)) (hd : (x == ("__debug__" : Str)) = false := by decide)
    (hcd : (x == ("__classdict__" : Str)) = false := by decide) : PE X (.Name x pos) (tVar i) := pe_var hN hv hd hcd
end

theorem iteF {A B : Prop} (h : B) : if false = true then A else B := by
  rw [if_neg Bool.false_ne_true]
  exact h
theorem iteT {A B : Prop} (h : A) : if true = true then A else B := by
  rw [if_pos rfl]
  exact h
noncomputable def Same (H H' : Hp) : Prop := ∀ b o, H b = some o → H' b = some o
theorem Same.refl (H : Hp) : Same H H := fun _ _ h => h
theorem Same.trans {H H1 H2 : Hp} (a : Same H H1) (b : Same H1 H2) : Same H H2 := fun c o h => b c o (a c o h)
theorem Same.free {H H' : Hp} (e : Same H H') {l : Addr} (h : H' l = Option.none) : H l = Option.none := by
  cases q : H l with
  | none => rfl
  | some o =>
    rw [e l o q] at h
    cases h
theorem Same.seq {K : PySem.W.Frag} {H H' : Hp} {a : Addr} {xs : List V} (e : Same H H') (h : SqL K H a xs) : SqL K H' a xs := by
  rcases h with (h | ⟨o, h⟩) | h
  · exact .inl (.inl (e _ _ h))
  · exact .inl (.inr ⟨o, e _ _ h⟩)
  · exact .inr h

end L2

namespace L2
open PySem PySem.Spec PyProof.Rows

section
variable {κ : Type} [DecidableEq κ]
end


section
variable {P : Program} {w : World} {H : Hp} {h : Heap} {a : Addr}
end

section
variable {X : Cx} {pins : List (Addr × Obj)} {σ : St} {H : Hp} {s : Shared} {a : Addr} {y v : V} {u r : Value} {o : Option V} {A : Around} {E : Value → Shared → Prop}

end

section
variable {X : Cx} {pins : List (Addr × Obj)} {σ : St} {H : Hp} {s : Shared} {a : Addr} {kvs : List (Key × V)} {k : Key} {u : Value} {A : Around} {E : Value → Shared → Prop}
end


section
variable {X : Cx} {o i e value : Expr} {pos pos' tpos : Pos} {td ty tv : TE}
end


section
variable {X : Cx} {pos : Pos}
end

section
variable {X : Cx} {pins : List (Addr × Obj)} {σ : St} {H : Hp} {s : Shared} {a : Addr} {y d : V} {u r : Value} {o : Option V} {A : Around} {E : Value → Shared → Prop}
end

section
variable {X : Cx} {o e f : Expr} {apos cpos : Pos} {td ty tx : TE}
end

section
variable {X : Cx} {pins : List (Addr × Obj)} {σ : St} {H : Hp} {s : Shared} {a : Addr} {kvs : List (Key × V)} {A : Around} {E : Value → Shared → Prop}
end


section
variable {X : Cx} {pins : List (Addr × Obj)} {σ : St} {H : Hp} {s : Shared} {a : Addr} {y : V} {u : Value} {A : Around} {E : Value → Shared → Prop}
end
end L2

set_option maxHeartbeats 4000000
namespace Mine
open PySem PySem.Builtin PySem.Builtin.Str

theorem strExt {a b : Str} (h : a.cps.toList = b.cps.toList) : a = b := by
  cases a; cases b
  exact congrArg Str.mk (Array.toList_inj.mp h)
theorem strLen (a : Str) : a.length = a.cps.toList.length := by simp [Str.length]
theorem strApp (a b : Str) : (a ++ b).cps.toList = a.cps.toList ++ b.cps.toList := by
  show (a.cps ++ b.cps).toList = _
  simp
noncomputable def inter (c : Nat) : List (List Nat) → List Nat
  | [] => []
  | [x] => x
  | x :: y :: r => x ++ c :: inter c (y :: r)
theorem join_codes (c : Nat) : ∀ ys : List Str, (Str.join ⟨#[c]⟩ ys).cps.toList = inter c (ys.map (·.cps.toList))
  | [] => by simp [Str.join, inter, Str.empty]
  | [x] => rfl
  | x :: y :: r => by
    have ih := join_codes c (y :: r)
    show ((x ++ (⟨#[c]⟩ : Str)) ++ Str.join ⟨#[c]⟩ (y :: r)).cps.toList = _
    rw [strApp, strApp, ih]
    simp [inter]
theorem join_nil_codes : ∀ ys : List Str, (Str.join ⟨#[]⟩ ys).cps.toList = (ys.map (·.cps.toList)).flatten
  | [] => by simp [Str.join, Str.empty]
  | [x] => by simp [Str.join]
  | x :: y :: r => by
    have ih := join_nil_codes (y :: r)
    show ((x ++ (⟨#[]⟩ : Str)) ++ Str.join ⟨#[]⟩ (y :: r)).cps.toList = _
    rw [strApp, strApp, ih]
    simp
theorem cut_once {c : Nat} : ∀ {x y R S : List Nat}, c ∉ x → c ∉ y → (R = [] ∨ ∃ r, R = c :: r) → (S = [] ∨ ∃ r, S = c :: r) → x ++ R = y ++ S → x = y ∧ R = S
  | [], [], R, S, _, _, _, _, h => ⟨rfl, h⟩
  | [], b :: y, R, S, _, hy, hR, _, h => by
    rcases hR with rfl | ⟨r, rfl⟩
    · cases h
    · have e : c = b := (List.cons.inj h).1
      exact absurd (by rw [← e]; exact List.mem_cons_self) hy
  | a :: x, [], R, S, hx, _, _, hS, h => by
    rcases hS with rfl | ⟨r, rfl⟩
    · cases h
    · have e : a = c := (List.cons.inj h).1
      exact absurd (by rw [e]; exact List.mem_cons_self) hx
  | a :: x, b :: y, R, S, hx, hy, hR, hS, h => by
    obtain ⟨e, h'⟩ := List.cons.inj h
    obtain ⟨e2, e3⟩ := cut_once (x := x) (y := y) (fun z => hx (List.mem_cons_of_mem _ z)) (fun z => hy (List.mem_cons_of_mem _ z)) hR hS h'
    exact ⟨by rw [e, e2], e3⟩
theorem inter_tail (c : Nat) (x : List Nat) (r : List (List Nat)) : ∃ R, inter c (x :: r) = x ++ R ∧ (R = [] ∨ ∃ q, R = c :: q) ∧ (R = [] ↔ r = []) ∧ (∀ q, R = c :: q → q = inter c r) := by
  cases r with
  | nil => exact ⟨[], by simp [inter], .inl rfl, by simp, fun q h => nomatch h⟩
  | cons y r => exact ⟨c :: inter c (y :: r), rfl, .inr ⟨_, rfl⟩, by simp, fun q h => (List.cons.inj h).2.symm⟩
theorem inter_inj {c : Nat} : ∀ {xs ys : List (List Nat)}, (∀ x ∈ xs, c ∉ x) → (∀ y ∈ ys, c ∉ y) → xs ≠ [] → ys ≠ [] → inter c xs = inter c ys → xs = ys
  | [], _, _, _, h, _, _ => absurd rfl h
  | _, [], _, _, _, h, _ => absurd rfl h
  | x :: xs, y :: ys, hx, hy, _, _, h => by
    obtain ⟨R, e1, f1, g1, q1⟩ := inter_tail c x xs
    obtain ⟨S, e2, f2, g2, q2⟩ := inter_tail c y ys
    rw [e1, e2] at h
    obtain ⟨a, b⟩ := cut_once (hx x List.mem_cons_self) (hy y List.mem_cons_self) f1 f2 h
    subst a; subst b
    cases xs with
    | nil =>
      have : ys = [] := g2.mp (g1.mpr rfl)
      rw [this]
    | cons x' xs' =>
      have hR : R ≠ [] := fun z => by cases g1.mp z
      have hys : ys ≠ [] := fun z => hR (g2.mpr z)
      rcases f1 with z | ⟨q, z⟩
      · exact absurd z hR
      · have i1 := q1 q z
        have i2 := q2 q z
        rw [inter_inj (fun u hu => hx u (List.mem_cons_of_mem _ hu)) (fun u hu => hy u (List.mem_cons_of_mem _ hu)) (by simp) hys (i1.symm.trans i2)]
theorem map_codes_inj : ∀ {xs ys : List Str}, xs.map (·.cps.toList) = ys.map (·.cps.toList) → xs = ys
  | [], [], _ => rfl
  | [], _ :: _, h => by cases h
  | _ :: _, [], h => by cases h
  | x :: xs, y :: ys, h => by
    obtain ⟨a, b⟩ := List.cons.inj h
    rw [strExt a, map_codes_inj b]
theorem split_ne (x y : Str) : Txt.split x y ≠ [] := by
  unfold Txt.split
  split
  · simp
  · split
    · simp
    · intro h
      have := congrArg List.length h
      rw [length_partsBetween] at this
      simp at this
theorem split_join (c : Nat) (ys : List Str) (h0 : ys ≠ []) (hf : ∀ y ∈ ys, c ∉ y.cps.toList) : Txt.split (Str.join ⟨#[c]⟩ ys) ⟨#[c]⟩ = ys := by
  refine map_codes_inj (inter_inj (c := c) ?_ ?_ ?_ ?_ ?_)
  · intro x hx
    obtain ⟨z, hz, rfl⟩ := List.mem_map.mp hx
    exact StrLaws.split_free _ c z hz
  · intro x hx
    obtain ⟨z, hz, rfl⟩ := List.mem_map.mp hx
    exact hf z hz
  · intro h; exact split_ne _ _ (List.map_eq_nil_iff.mp h)
  · intro h; exact h0 (List.map_eq_nil_iff.mp h)
  · rw [← join_codes, ← join_codes, StrLaws.join_split]
theorem join_snoc (s : Str) (b : Str) : ∀ xs : List Str, xs ≠ [] → Str.join s (xs ++ [b]) = Str.join s xs ++ s ++ b
  | [], h => absurd rfl h
  | [x], _ => rfl
  | x :: y :: r, _ => by
    have ih := join_snoc s b (y :: r) (by simp)
    show x ++ s ++ Str.join s (y :: r ++ [b]) = (x ++ s ++ Str.join s (y :: r)) ++ s ++ b
    rw [ih]
    apply strExt
    simp only [strApp, List.append_assoc]
end Mine

set_option maxHeartbeats 4000000
namespace Mine
open PySem PySem.Builtin PySem.Builtin.Str
noncomputable def tab8 : List Int := [48271, 1000003, 15485863, 32452843, 49979687, 67867967, 86028121, 104395301]
noncomputable def tab5 : List Int := [179424673, 373587883, 573259391, 776531401, 982451653]
noncomputable def pickA (c k many : Int) : Int := Builtin.bitAnd (c / 2 ^ (1 + 10 * k).toNat) 1023 % many
noncomputable def one1 (c k : Int) : Int := (c / 2 % 2305843009213693951 + 1) * (tab8.getD (k % 8).toNat 0 * tab5.getD (k / 8).toNat 0) % 2305843009213693951
noncomputable def one2 (c k : Int) : Int := one1 c k * one1 c k % 1000000000039
noncomputable def pickB (c k many : Int) : Int := (one2 c k + k + 1) * (one2 c k / 10007 + 48271) % 67280421310721 / 31 % many
noncomputable def pick (c k many : Int) : Int := if c % 2 = 1 ∧ 0 < c / 2 ^ (400 : Int).toNat then pickA c k many else pickB c k many
theorem pick_ge (c k : Int) {m : Int} (h : 0 < m) : 0 ≤ pick c k m := by
  unfold pick; split
  · exact Int.emod_nonneg _ (by omega)
  · exact Int.emod_nonneg _ (by omega)
theorem pick_lt (c k : Int) {m : Int} (h : 0 < m) : pick c k m < m := by
  unfold pick; split
  · exact Int.emod_lt_of_pos _ h
  · exact Int.emod_lt_of_pos _ h
theorem one1_ge (c k : Int) : 0 ≤ one1 c k := Int.emod_nonneg _ (by decide)
theorem one1_lt (c k : Int) : one1 c k < 2305843009213693951 := Int.emod_lt_of_pos _ (by decide)
theorem one2_ge (c k : Int) : 0 ≤ one2 c k := Int.emod_nonneg _ (by decide)
theorem one2_lt (c k : Int) : one2 c k < 1000000000039 := Int.emod_lt_of_pos _ (by decide)
theorem tab8_at {k : Int} (h0 : 0 ≤ k) (h1 : k < 8) : tab8[k.toNat]? = some (tab8.getD k.toNat 0) ∧ 0 < tab8.getD k.toNat 0 ∧ tab8.getD k.toNat 0 < 1000000000 := by
  have : ∀ n : Fin 8, tab8[n.val]? = some (tab8.getD n.val 0) ∧ 0 < tab8.getD n.val 0 ∧ tab8.getD n.val 0 < 1000000000 := by decide
  exact this ⟨k.toNat, by omega⟩
theorem tab5_at {k : Int} (h0 : 0 ≤ k) (h1 : k < 5) : tab5[k.toNat]? = some (tab5.getD k.toNat 0) ∧ 0 < tab5.getD k.toNat 0 ∧ tab5.getD k.toNat 0 < 1000000000 := by
  have : ∀ n : Fin 5, tab5[n.val]? = some (tab5.getD n.val 0) ∧ 0 < tab5.getD n.val 0 ∧ tab5.getD n.val 0 < 1000000000 := by decide
  exact this ⟨k.toNat, by omega⟩
theorem mul_small {a b : Int} (ha : 0 < a) (ha' : a < 1000000000) (hb : 0 < b) (hb' : b < 1000000000) : 0 < a * b ∧ a * b < 1000000000000000000 := by
  have h1 := Int.mul_pos ha hb
  have h2 : a * b ≤ 1000000000 * b := Int.mul_le_mul_of_nonneg_right (by omega) (by omega)
  exact ⟨h1, by omega⟩
noncomputable def subA (c j : Int) : Int := Builtin.bitOr (c / 2 ^ (480 * j).toNat) 1
noncomputable def subB (c j : Int) : Int := (c / 2 / (j + 1) + 104729 * j) * 2
noncomputable def sub (c j : Int) : Int := if c % 2 = 1 ∧ 0 < c / 2 ^ (480 * j + 400).toNat then subA c j else subB c j
noncomputable def number (c far : Int) : Int := if c % 2 = 1 ∧ 0 < c / 2 ^ (400 : Int).toNat then c / 2 ^ (400 : Int).toNat % far else c / 2 % far
noncomputable def letter (c j : Int) : Nat := 97 + (pick c (31 + j) 26).toNat
noncomputable def nameLen (c : Int) : Nat := (1 + pick c 30 8).toNat
noncomputable def nameCodes (c : Int) : List Nat := (List.range (nameLen c)).map fun (j : Nat) => letter c (j : Int)
noncomputable def name (c : Int) : Str := ⟨(nameCodes c).toArray⟩
theorem nameLen_ge (c : Int) : 1 ≤ nameLen c := by unfold nameLen; have := pick_ge c 30 (m := 8) (by decide); omega
theorem nameLen_le (c : Int) : nameLen c ≤ 8 := by unfold nameLen; have := pick_lt c 30 (m := 8) (by decide); omega
theorem name_length (c : Int) : (name c).length = nameLen c := by simp [name, nameCodes, Str.length]
structure IsNm (x : Str) : Prop where
  lo : 1 ≤ x.length
  hi : x.length ≤ 8
  ok : ∀ n ∈ x.cps.toList, 97 ≤ n ∧ n ≤ 122
theorem isNm_name (c : Int) : IsNm (name c) := by
  refine ⟨by rw [name_length]; exact nameLen_ge c, by rw [name_length]; exact nameLen_le c, fun n hn => ?_⟩
  have hn' : n ∈ nameCodes c := by simpa [name] using hn
  obtain ⟨j, _, rfl⟩ := List.mem_map.mp hn'
  have h1 := pick_ge c (31 + (j : Int)) (m := 26) (by decide)
  have h2 := pick_lt c (31 + (j : Int)) (m := 26) (by decide)
  unfold letter
  omega
theorem IsNm.nodot {x : Str} (h : IsNm x) : 46 ∉ x.cps.toList := fun z => by have := h.ok 46 z; omega
noncomputable def letters : Str := "abcdefghijklmnopqrstuvwxyz"
theorem letters_at {k : Int} (h0 : 0 ≤ k) (h1 : k < 26) : letters.cps.toList[k.toNat]? = some (97 + k.toNat) := by
  have : ∀ n : Fin 26, letters.cps.toList[n.val]? = some (97 + n.val) := by decide +kernel
  exact this ⟨k.toNat, by omega⟩
theorem join_letters (c : Int) (n : Nat) : Txt.join (⟨#[]⟩ : Str) ((List.range n).map fun (j : Nat) => (⟨#[letter c (j : Int)]⟩ : Str)) = ⟨((List.range n).map fun (j : Nat) => letter c (j : Int)).toArray⟩ := by
  show glued _ _ = _
  rw [StrLaws.glued_eq_join]
  apply strExt
  rw [join_nil_codes, List.map_map]
  have : ∀ l : List Nat, (l.map ((fun x : Str => x.cps.toList) ∘ fun (j : Nat) => (⟨#[letter c (j : Int)]⟩ : Str))).flatten = l.map fun (j : Nat) => letter c (j : Int) := by
    intro l
    induction l with
    | nil => rfl
    | cons a r ih => simp only [List.map_cons, List.flatten_cons, ih] <;> rfl
  rw [this]
theorem dot_eq : (("." : Str)) = ⟨#[46]⟩ := by decide +kernel
theorem empty_eq : (("" : Str)) = ⟨#[]⟩ := by decide +kernel
noncomputable def dotted (ys : List Str) : Str := Txt.join ("." : Str) ys
theorem dotted_join (ys : List Str) : dotted ys = Str.join ⟨#[46]⟩ ys := by
  unfold dotted
  rw [dot_eq]
  exact StrLaws.glued_eq_join _ ys
theorem dotted_split (ys : List Str) (h0 : ys ≠ []) (hn : ∀ y ∈ ys, IsNm y) : Txt.split (dotted ys) ("." : Str) = ys := by
  rw [dotted_join, dot_eq]
  exact split_join 46 ys h0 fun y hy => (hn y hy).nodot
theorem sum_le {ys : List Str} {n : Nat} (h : ∀ y ∈ ys, y.length ≤ n) : (ys.map (·.length)).sum ≤ ys.length * n := by
  induction ys with
  | nil => simp
  | cons y r ih =>
    have h1 := h y List.mem_cons_self
    have h2 := ih fun z hz => h z (List.mem_cons_of_mem _ hz)
    simp only [List.map_cons, List.sum_cons, List.length_cons, Nat.add_mul, Nat.one_mul]
    omega
theorem dotted_len (ys : List Str) : (dotted ys).length ≤ (ys.map (·.length)).sum + ys.length := by
  rw [dotted_join]
  have := StrLaws.join_length_le ⟨#[46]⟩ ys
  have e : (⟨#[46]⟩ : Str).length = 1 := rfl
  rw [e] at this
  omega
end Mine

set_option maxHeartbeats 4000000
namespace L2
open PySem PySem.Spec PyProof.Rows

section
variable {X : Cx}
noncomputable def rInst (K : PySem.W.Frag) : List V → Hp → VK → Prop := fun xs H Q => ∃ x t n b, xs = [x, .ty n] ∧ TyOf K H x t ∧ PySem.W.kitOne K t (.type n) = some b ∧ Q (.bl b) H
theorem call_inst : CallR X (.builtin "isinstance") (rInst X.K) := by
  intro pins s σ H xs us Q I r h
  obtain ⟨x, t, n, b, rfl, ty, e, q⟩ := h
  obtain ⟨u, u2, rfl, rx, ry⟩ := vals2 r
  cases (show u2 = Value.type n from ry)
  exact isinst_ok I rx ty e fun tk => ⟨.bl b, H, I.tok tk, rfl, q⟩
theorem kit_same {K : PySem.W.Frag} {n : String} : PySem.W.kitOne K (.type n) (.type n) = some true := by
  unfold PySem.W.kitOne
  rw [if_pos (by simp)]

theorem strs_of {ys : List Str} : ∀ {us : List Value}, Vals (ys.map V.str) us → StrsAre us ys := by
  induction ys with
  | nil => intro us r; rw [List.map_nil] at r; cases r; exact .nil
  | cons y ys ih =>
    intro us r
    rw [List.map_cons] at r
    cases r with
    | cons r1 r2 =>
      obtain ⟨t, e⟩ := r1
      subst e
      exact .cons y t (ih r2)
theorem vals_strs : ∀ (l : List (Str × Tok)), Vals ((l.map (·.1)).map V.str) (strValues l)
  | [] => .nil
  | (y, t) :: l => .cons ⟨t, rfl⟩ (vals_strs l)
noncomputable def rJoin (K : PySem.W.Frag) : V → List V → Hp → VK → Prop := fun x vs H Q => ∃ sep p ys, x = .str sep ∧ vs = [.ref p] ∧ (SqL K H p (ys.map V.str) ∨ SqT K H p (ys.map V.str)) ∧
  (ys.map (·.length)).sum + ys.length * sep.length ≤ 16777216 ∧ Q (.str (Txt.join sep ys)) H
theorem mt_join : MtR X "str.join" (rJoin X.K) := by
  intro pins s σ H x vs v us Q I rx rv h
  obtain ⟨sep, p, ys, rfl, rfl, hq, hz, q⟩ := h
  obtain ⟨t, rfl⟩ := rx
  obtain ⟨u, rfl, ru⟩ := vals1 rv
  cases (show u = Value.ref p from ru)
  rcases hq with hq | hq
  · obtain ⟨its, r, pl, _⟩ := I.list hq
    exact join_list pl.isList (by simpa using strs_of r) hz fun t' k => ⟨.str _, H, I.tok k, ⟨t', rfl⟩, q⟩
  · obtain ⟨its, r, pl, _⟩ := I.tuple hq
    exact join_tuple pl (by simpa using strs_of r) hz fun t' k => ⟨.str _, H, I.tok k, ⟨t', rfl⟩, q⟩
noncomputable def rSplit : V → List V → Hp → VK → Prop := fun x vs H Q => ∃ z sep, x = .str z ∧ vs = [.str sep] ∧ (sep.length == 0) = false ∧ z.length + 2 ≤ sizeLine ∧
  ∀ p, H p = none → Q (.ref p) (upd H p (.lst ((Txt.split z sep).map V.str)))
theorem split_few (z sep : Str) (h : z.length + 2 ≤ sizeLine) : (Txt.split z sep).length ≤ sizeLine := by
  unfold Txt.split
  split
  · simp; omega
  · split
    · simp; omega
    · have e1 := StrLaws.occ_length_le z sep 0 z.length (z.length + 1)
      rw [length_partsBetween]; omega
theorem mt_split : MtR X "str.split" rSplit := by
  intro pins s σ H x vs v us Q I rx rv h
  obtain ⟨z, sep, rfl, rfl, hy, hz, q⟩ := h
  obtain ⟨t, rfl⟩ := rx
  obtain ⟨u, rfl, ru⟩ := vals1 rv
  obtain ⟨t2, rfl⟩ := ru
  have fin : ∀ (l : List (Str × Tok)) (k : Nat), l.map (·.1) = Txt.split z sep →
      EP X pins σ Q (.ref s.heap.objs.size) { s with heap := s.heap.push { cls := .type "list", data := .seq (strValues l).toArray }, toks := k } := fun l k e => by
    have hv := vals_strs l
    rw [e] at hv
    exact ⟨.ref s.heap.objs.size, _, I.lnew hv (by rw [List.length_map]; exact split_few z sep hz), rfl, q _ I.fresh⟩
  have few : (Builtin.Str.partsBetween z (Builtin.Str.occurrences z sep 0 z.length (z.length + 1)) sep.length).length ≤ sizeLine := by
    have e1 := StrLaws.occ_length_le z sep 0 z.length (z.length + 1)
    rw [length_partsBetween]; omega
  cases h1 : (decide (z.length < sep.length) || decide (Builtin.Str.strKind z < Builtin.Str.strKind sep))
  · cases hf : (Builtin.Str.occurrences z sep 0 z.length (z.length + 1)).isEmpty
    · refine call_meets F.slot_str_split (typeIs_str _ _ _) F.entry_str_split (F.args_str_split_2 _ _) (meets_str_split_sep z sep t t2 h1 hy hf (by omega) few) ?_
      rw [strsFrom_eq]
      exact fin (numbered s.toks _) _ ((numbered_texts _ _).trans (by unfold Txt.split; rw [if_neg (by rw [h1]; exact Bool.false_ne_true), if_neg (by rw [hf]; exact Bool.false_ne_true)]))
    · refine call_meets F.slot_str_split (typeIs_str _ _ _) F.entry_str_split (F.args_str_split_2 _ _) (meets_str_split_not_found z sep t t2 h1 hy hf) ?_
      exact fin [(z, t)] s.toks (by unfold Txt.split; rw [if_neg (by rw [h1]; exact Bool.false_ne_true), if_pos hf] <;> rfl)
  · refine call_meets F.slot_str_split (typeIs_str _ _ _) F.entry_str_split (F.args_str_split_2 _ _) (meets_str_split_cannot_occur z sep t t2 h1) ?_
    exact fin [(z, t)] s.toks (by unfold Txt.split; rw [if_pos h1] <;> rfl)
end
end L2

set_option maxHeartbeats 4000000
namespace L2
open PySem PySem.Spec PyProof.Rows

theorem clos_go {env : Env} : ∀ (ns : List (Str × NameKind)) (acc : List (Str × Addr)), (∀ y ∈ ns, y.2 = .free → ∃ c, env.cells.lookup y.1 = some c) → (∀ p ∈ acc, env.cells.lookup p.1 = some p.2) →
    ∃ cl : List (Str × Addr), (forIn ns acc fun (y : Str × NameKind) (cs : List (Str × Addr)) => (match y with
      | (name, kind) => if (kind == NameKind.free) = true then (do let c ← cellOf env name; pure (ForInStep.yield ((name, c) :: cs))) else pure (ForInStep.yield cs) : Sem (ForInStep (List (Str × Addr))))) = pure cl ∧
      (∀ p ∈ cl, env.cells.lookup p.1 = some p.2) ∧ (∀ p ∈ acc, p ∈ cl) ∧ ∀ y ∈ ns, y.2 = .free → ∃ c, (y.1, c) ∈ cl
  | [], acc, _, ha => ⟨acc, rfl, ha, fun _ h => h, fun _ h => nomatch h⟩
  | (n, k) :: r, acc, hn, ha => by
    have hr : ∀ y ∈ r, y.2 = .free → ∃ c, env.cells.lookup y.1 = some c := fun y hy => hn y (List.mem_cons_of_mem _ hy)
    by_cases hk : k = NameKind.free
    · subst hk
      obtain ⟨c, hc⟩ := hn (n, .free) List.mem_cons_self rfl
      have hc' : env.cells.lookup n = some c := hc
      obtain ⟨cl, e, h1, h2, h3⟩ := clos_go r ((n, c) :: acc) hr (fun p hp => by
        rcases List.mem_cons.mp hp with rfl | hp
        · exact hc'
        · exact ha p hp)
      refine ⟨cl, ?_, h1, fun p hp => h2 p (List.mem_cons_of_mem _ hp), fun y hy hf => ?_⟩
      · rw [List.forIn_cons]
        have e1 : cellOf env n = pure c := by unfold cellOf; rw [hc']
        simp only [beq_self_eq_true, if_true, e1, pure_bind]
        exact e
      · rcases List.mem_cons.mp hy with rfl | hy
        · exact ⟨c, h2 _ List.mem_cons_self⟩
        · exact h3 y hy hf
    · obtain ⟨cl, e, h1, h2, h3⟩ := clos_go r acc hr ha
      refine ⟨cl, ?_, h1, h2, fun y hy hf => ?_⟩
      · rw [List.forIn_cons]
        have hb : (k == NameKind.free) = false := by simpa using hk
        simp only [hb, Bool.false_eq_true, if_false, pure_bind]
        exact e
      · rcases List.mem_cons.mp hy with rfl | hy
        · exact absurd hf hk
        · exact h3 y hy hf
theorem look_some {α : Type} : ∀ {l : List (Str × α)} {x : Str} {c : α}, (x, c) ∈ l → ∃ d, l.lookup x = some d
  | [], _, _, h => nomatch h
  | (y, d) :: r, x, c, h => by
    by_cases e : x = y
    · subst e; exact ⟨d, by simp [List.lookup_cons]⟩
    · have hb : (x == y) = false := by simpa using e
      rcases List.mem_cons.mp h with z | z
      · cases z; exact absurd rfl e
      · obtain ⟨d', h'⟩ := look_some z
        exact ⟨d', by simp only [List.lookup_cons, hb]; exact h'⟩
theorem clos_ok {scope : Scope} {env : Env} (h : ∀ y ∈ scope.names, y.2 = .free → ∃ c, env.cells.lookup y.1 = some c) :
    ∃ cl : List (Str × Addr), closureFor scope env = pure cl ∧ (∀ x c, cl.lookup x = some c → env.cells.lookup x = some c) ∧ ∀ x, (x, NameKind.free) ∈ scope.names → ∃ c, cl.lookup x = some c := by
  obtain ⟨cl, e, h1, _, h3⟩ := clos_go (env := env) scope.names [] h (fun p hp => nomatch hp)
  refine ⟨cl, ?_, fun x c q => h1 (x, c) (PySem.mem_of_lookup q), fun x hx => ?_⟩
  · simp only [closureFor]
    simp only [bind_pure]
    exact e
  · obtain ⟨c, hc⟩ := h3 (x, .free) hx rfl
    exact look_some hc

noncomputable def ixOk (osc sc : Scope) (oN : List Str) : List (Option Nat) → List Str → Bool
  | [], [] => true
  | none :: r, _ :: n => ixOk osc sc oN r n
  | some k :: r, x :: n => (oN[k]? == some x) && (sc.names.lookup x == some .free) && ixOk osc sc oN r n
  | _, _ => false
theorem ixOk_len {osc sc : Scope} {oN : List Str} : ∀ {ix : List (Option Nat)} {N : List Str}, ixOk osc sc oN ix N = true → ix.length = N.length
  | [], [], _ => rfl
  | none :: _, _ :: _, h => congrArg (· + 1) (ixOk_len (by simpa [ixOk] using h))
  | some _ :: _, _ :: _, h => congrArg (· + 1) (ixOk_len (by simp [ixOk] at h; exact h.2))
  | [], _ :: _, h => by simp [ixOk] at h
  | none :: _, [], h => by simp [ixOk] at h
  | some _ :: _, [], h => by simp [ixOk] at h
theorem ixOk_at {osc sc : Scope} {oN : List Str} : ∀ {ix : List (Option Nat)} {N : List Str} (i k : Nat), ixOk osc sc oN ix N = true → ix[i]? = some (some k) → ∃ x, N[i]? = some x ∧ oN[k]? = some x ∧ sc.names.lookup x = some .free
  | [], _, _, _, _, e => by simp at e
  | none :: _, [], _, _, h, _ => by simp [ixOk] at h
  | some _ :: _, [], _, _, h, _ => by simp [ixOk] at h
  | none :: r, x :: n, 0, _, _, e => by simp at e
  | none :: r, x :: n, i + 1, k, h, e => by
    obtain ⟨y, h1, h2⟩ := ixOk_at (ix := r) (N := n) i k (by simpa [ixOk] using h) (by simpa using e)
    exact ⟨y, by simpa using h1, h2⟩
  | some j :: r, x :: n, 0, k, h, e => by
    simp [ixOk] at h
    simp at e
    subst e
    exact ⟨x, by simp, h.1.1, h.1.2⟩
  | some j :: r, x :: n, i + 1, k, h, e => by
    simp [ixOk] at h
    obtain ⟨y, h1, h2⟩ := ixOk_at (ix := r) (N := n) i k h.2 (by simpa using e)
    exact ⟨y, by simpa using h1, h2⟩
noncomputable def blkOk (osc : Scope) (oN N : List Str) (ix : List (Option Nat)) (sc : Scope) : Bool :=
  (sc.kind == .function) && sc.names.all (fun y => (y.2 != .cell) && ((y.2 != .local) || (sc.names.lookup y.1 == some .local)) && ((y.2 != .free) || ((osc.names.lookup y.1 == some .cell) || (osc.names.lookup y.1 == some .free)))) && ixOk osc sc oN ix N
theorem relab_free {env : Env} : ∀ {names : List (Str × NameKind)} {x : Str}, names.lookup x = some .free →
    (names.map fun (n, k) => if (k == NameKind.free && env.scope.kind == .function && env.kindOf n == some .cell) then (n, NameKind.cell) else (n, k)).lookup x = some .cell ∨
    (names.map fun (n, k) => if (k == NameKind.free && env.scope.kind == .function && env.kindOf n == some .cell) then (n, NameKind.cell) else (n, k)).lookup x = some .free
  | [], _, h => by simp at h
  | (n, k) :: r, x, h => by
    have ih := @relab_free env r x
    simp only [List.map_cons]
    cases hx : x == n with
    | true =>
      simp only [List.lookup_cons, hx] at h
      cases h
      by_cases hc : (NameKind.free == NameKind.free && env.scope.kind == .function && env.kindOf n == some .cell) = true
      · left; rw [if_pos hc]; simp only [List.lookup_cons, hx]
      · right; rw [if_neg hc]; simp only [List.lookup_cons, hx]
    | false =>
      simp only [List.lookup_cons, hx] at h
      by_cases hc : (k == NameKind.free && env.scope.kind == .function && env.kindOf n == some .cell) = true
      · rw [if_pos hc]; simp only [List.lookup_cons, hx]; exact ih h
      · rw [if_neg hc]; simp only [List.lookup_cons, hx]; exact ih h
theorem relab_back {env : Env} : ∀ {names : List (Str × NameKind)} {x : Str}, (∀ y ∈ names, y.2 ≠ NameKind.cell) →
    ((names.map fun (n, k) => if (k == NameKind.free && env.scope.kind == .function && env.kindOf n == some .cell) then (n, NameKind.cell) else (n, k)).lookup x = some .cell ∨
    (names.map fun (n, k) => if (k == NameKind.free && env.scope.kind == .function && env.kindOf n == some .cell) then (n, NameKind.cell) else (n, k)).lookup x = some .free) → (x, NameKind.free) ∈ names
  | [], _, _, h => by simp at h
  | (n, k) :: r, x, hn, h => by
    have ih := @relab_back env r x fun y hy => hn y (List.mem_cons_of_mem _ hy)
    simp only [List.map_cons] at h
    by_cases hc : (k == NameKind.free && env.scope.kind == .function && env.kindOf n == some .cell) = true
    · rw [if_pos hc] at h
      cases hx : x == n with
      | true =>
        have e : x = n := by simpa using hx
        have e2 : k = NameKind.free := by simp at hc; exact hc.1.1
        subst e; subst e2
        exact List.mem_cons_self
      | false =>
        simp only [List.lookup_cons, hx] at h
        exact List.mem_cons_of_mem _ (ih h)
    · rw [if_neg hc] at h
      cases hx : x == n with
      | true =>
        have e : x = n := by simpa using hx
        subst e
        simp only [List.lookup_cons, hx] at h
        rcases h with h | h
        · cases h; exact absurd rfl (hn (x, .cell) List.mem_cons_self)
        · cases h; exact List.mem_cons_self
      | false =>
        simp only [List.lookup_cons, hx] at h
        exact List.mem_cons_of_mem _ (ih h)

noncomputable def blk (X : Cx) (N : List Str) (sc : Scope) (cl : List (Str × Addr)) (C : Addr) (fp : List Addr) (s : Shared) (H : Hp) : Cx :=
  { X with N := N, s₀ := s, H₀ := H, env := compEnvC sc cl C X.env, outer := X.stack, ex := fp, fn := fun _ => false, pn := [], xe := fun _ _ => False }
noncomputable def lift (ix : List (Option Nat)) (σ : St) : St := ix.map fun o => o.bind fun k => (σ[k]?).bind id
noncomputable def PF (X : Cx) (ifs : List Expr) (t : TT) : Prop :=
  ∀ (pins : List (Addr × Obj)) (s : Shared) (σ : St) (H : Hp) (Q : Bool → Hp → Prop), Inv X pins σ H s → t σ H Q →
    wpAny (model X.prog X.w) X.A (forIn ifs true fun c r => if r = true then do let ok ← isTrue c X.env (eval c X.env); pure (ForInStep.yield ok) else pure (ForInStep.yield r)) (TP X pins σ Q) X.xe s
noncomputable def tYes : TT := fun _ H Q => Q true H
theorem pf_nil {X : Cx} : PF X [] tYes := fun pins s σ H Q I h => wpAny_tests_nil ⟨H, I, h⟩
theorem pf_one {X : Cx} {c : Expr} {t : TT} (hc : PT X c t) : PF X [c] t := fun pins s σ H Q I h => wpAny_tests_one (hc pins s σ H Q I h)

noncomputable def CompW (g : TG) (tf : TT) (te : TE) (J : It) (σ0 : St) (H1 : Hp) (Fin : List V → Hp → Prop) : Prop :=
  ∃ W : Nat → Nat → St → List V → Hp → Prop, (∃ m, W 0 m σ0 [] H1) ∧ ∀ i m τ ys H, W i m τ ys H →
    (J.stop i H ∧ Fin ys H) ∨ (J.go i H ∧ ∀ x H', J.yld i H x H' → g x τ H' fun τ2 H2 => tf τ2 H2 fun b H3 =>
      if b = true then te τ2 H3 fun y H4 => ys.length < sizeLine ∧ ∃ m', m' < m ∧ W (i + 1) m' τ2 (ys ++ [y]) H4 else ∃ m', m' < m ∧ W (i + 1) m' τ2 ys H3)
noncomputable def tComp (ix : List (Option Nat)) (wi : TI) (g : TG) (tf : TT) (te : TE) : TE := fun σ H Q => wi σ H fun J H1 => CompW g tf te J (lift ix σ) H1 fun ys H' => ∀ p, H' p = none → Q (.ref p) (upd H' p (.lst ys))

theorem cloop {P : Program} {w : World} {A : Around} {R : Result → Shared → Prop} {s : Shared} {el tg src : Expr} {fs : List Expr} {sc : Scope} {ps : Pos} {iv ac : Value} {en : Env} (J : Nat → Shared → Prop)
    (turn : ∀ n s, J n s → wpAny (model P w) A (pyNext iv) (fun r s1 => match r with
      | none => R (.ok .next) s1
      | some v => wpAny (model P w) A (letOwnedTupleGo tg iv v) (fun _ s2 => wpAny (model P w) A (assign tg en v) (fun _ s3 =>
          wpAny (model P w) A (forIn fs true fun c r => if r = true then do let ok ← isTrue c en (eval c en); pure (ForInStep.yield ok) else pure (ForInStep.yield r)) (fun ok s4 =>
            if ok = true then wpAny (model P w) A (eval el en) (fun x s5 => wpAny (model P w) A (call (.builtin "list.append") [ac, x]) (fun _ s6 => ∃ m, m < n ∧ J m s6) (fun _ _ => False) s5) (fun _ _ => False) s4
            else ∃ m, m < n ∧ J m s4) (fun _ _ => False) s3) (fun _ _ => False) s2) (fun _ _ => False) s1) (fun _ _ => False) s)
    (n : Nat) (h : J n s) : codeAny (model P w) A (.compLoop (.ListComp el [⟨tg, src, fs, 0⟩] sc ps) 0 iv ac en) R s := by
  have ab : ∀ {α : Type} {t : Sem α} {Q Q' : α → Shared → Prop} {E : Value → Shared → Prop} {s : Shared}, wpAny (model P w) A t Q (fun _ _ => False) s → (∀ a s, Q a s → Q' a s) → wpAny (model P w) A t Q' E s :=
    fun h hq => wpAny_mono h hq fun _ _ f => f.elim
  refine codeAny_loop rfl J (fun n s hJ => ?_) n h
  show wpAny _ A ((compTurn (.ListComp el [⟨tg, src, fs, 0⟩] sc ps) 0 iv ac en).onRaise (fun x => do noteFrame x en; theTreesLotGoes x)) _ _ s
  refine wpAny_noted ?_
  rw [compTurn_list]
  refine wpAny_bind (wpAny_standAt (wpAny_bind (ab (turn n s hJ) fun r s1 h1 => ?_)))
  cases r with
  | none => exact wpAny_pure h1
  | some v =>
    refine wpAny_bind (ab h1 fun _ s2 h2 => wpAny_bind (ab h2 fun _ s3 h3 => wpAny_bind (ab h3 fun ok s4 h4 => ?_)))
    cases ok with
    | false => exact wpAny_pure ⟨rfl, h4⟩
    | true => exact wpAny_bind (wpAny_bind (ab h4 fun x s5 h5 => wpAny_bind (ab h5 fun _ s6 h6 => wpAny_pure (wpAny_pure ⟨rfl, h6⟩))))

section
variable {X : Cx} {pins : List (Addr × Obj)} {σ : St} {H2 : Hp} {s2 : Shared} {N : List Str} {ix : List (Option Nat)} {sc : Scope} {cl : List (Str × Addr)}
theorem blk_ok (I : Inv X pins σ H2 s2) (hb : blkOk X.env.scope X.N N ix sc = true) (c1 : ∀ x c, cl.lookup x = some c → X.env.cells.lookup x = some c) (c2 : ∀ x, (x, NameKind.free) ∈ sc.names → ∃ c, cl.lookup x = some c)
    {fp : List Addr} (hf : ∀ b ∈ fp, FpOk X pins H2 b) (hfo : ∀ b ∈ fp, ∃ o, s2.heap.get? b = some o) {C : Addr} (hC : s2.heap.objs.size ≤ C) : (blk X N sc cl C fp s2 H2).Ok := by
  unfold blkOk at hb
  simp only [Bool.and_eq_true] at hb
  obtain ⟨⟨hk, hn⟩, hi⟩ := hb
  have nocell : ∀ y ∈ sc.names, y.2 ≠ NameKind.cell := fun y hy => by
    have := List.all_eq_true.mp hn y hy
    simp only [Bool.and_eq_true] at this
    simpa using this.1.1
  refine ⟨I.ok.mod, ?_, I.ok.glob, I.ok.blt, hC, fun x y c h1 h2 => I.ok.inj x y c (c1 x c h1) (c1 y c h2), fun x hx => ?_, fun x c hx => ?_, I.ok.hd, I.ok.frames, .inl rfl, fun b hb => ⟨?_, fun x c h => ?_⟩, I.bs, Nat.le_trans I.ok.bsz I.sz, fun b o e hb => ?_, fun b hb hs => ?_, I.stack, I.stkFree⟩
  · show (relabel sc X.env).kind = .function
    exact eq_of_beq hk
  · exact c2 x (relab_back nocell hx)
  · cases hx
  · show b ≠ C
    obtain ⟨o, e⟩ := hfo b hb
    exact Nat.ne_of_lt (Nat.lt_of_lt_of_le (Heap.lt_size e) hC)
  · obtain ⟨_, _, _, _, h5, _⟩ := hf b hb
    exact h5 x c (c1 x c h)
  · obtain ⟨_, _, _, h4, _, _⟩ := hf b hb
    rcases h4 with h4 | h4
    · exact I.ok.noex b o e h4
    · exact absurd (Nat.lt_of_lt_of_le (Heap.lt_size (I.ok.bs b o e).1) h4) (Nat.lt_irrefl _)
  · obtain ⟨_, h2, h3, _⟩ := hf b hb
    rcases List.mem_cons.mp (I.stkSub b hs) with z | z
    · exact h2 z
    · exact h3 z
theorem Un.grow {fs ex : List Addr} {H H' : Hp} {h h' : Heap} {D : Addr} {o : HO} (u : Un fs ex H H' h h') (hD : h.objs.size ≤ D) (hn : H D = none) : Un fs ex H (upd H' D o) h h' := by
  have lt : ∀ {b : Addr} {ob : Obj}, h.get? b = some ob → b ≠ D := fun e z => by
    subst z; exact absurd (Nat.lt_of_lt_of_le (Heap.lt_size e) hD) (Nat.lt_irrefl _)
  refine ⟨u.keep, u.slot, fun b ob e n hx => by rw [upd_ne (lt e)]; exact u.free b ob e n hx, u.there, fun b xs e => ?_, fun b ob v e => ?_, fun b ps e => ?_⟩
  · rw [upd_ne (ne_of_none e hn)]; exact u.tups b xs e
  · rw [upd_ne (ne_of_none e hn)]; exact u.frzs b ob v e
  · obtain ⟨m, q⟩ := u.tbls b ps e
    exact ⟨m, by rw [upd_ne (ne_of_none e hn)]; exact q⟩
theorem HOk.grow {P : Program} {w : World} {H : Hp} {h : Heap} {D : Addr} {o : HO} (x : HOk P w H h) (hn : H D = none) (new : ObjOk P w (upd H D o) h D o) : HOk P w (upd H D o) h := fun b u e => by
  by_cases hb : b = D
  · subst hb; rw [upd_same] at e; cases e; exact new
  · rw [upd_ne hb] at e
    exact (x b u e).stay (fun _ _ _ q => q) (fun c q => by rw [upd_ne (ne_of_none q hn)]; exact q) fun c xs q => by rw [upd_ne (ne_of_none q hn)]; exact q

theorem lift_at {ix : List (Option Nat)} {σ : St} {i : Nat} {v : V} (h : (lift ix σ)[i]? = some (some v)) : ∃ k, ix[i]? = some (some k) ∧ σ[k]? = some (some v) := by
  unfold lift at h
  rw [List.getElem?_map] at h
  cases e : ix[i]? with
  | none => rw [e] at h; cases h
  | some o =>
    rw [e] at h
    cases o with
    | none => simp at h
    | some k =>
      refine ⟨k, rfl, ?_⟩
      simp only [Option.map_some, Option.bind_some, Option.some.injEq] at h
      cases q : σ[k]? with
      | none => rw [q] at h; cases h
      | some z => rw [q] at h; have h' : z = some v := h; rw [h']

theorem comp_core {el tg src : Expr} {ifs : List Expr} {pos : Pos} {g : TG} {tf : TT} {te : TE} {J : It} {fp : List Addr} {it : Addr} {tn : Nat → Heap → Prop} {E : Value → Shared → Prop} {Fin : List V → Hp → Prop} {RR : Value → Addr → Result → Shared → Prop}
    (I : Inv X pins σ H2 s2) (hc : X.calm = true) (hb : blkOk X.env.scope X.N N ix sc = true) (c1 : ∀ x c, cl.lookup x = some c → X.env.cells.lookup x = some c) (c2 : ∀ x, (x, NameKind.free) ∈ sc.names → ∃ c, cl.lookup x = some c)
    (T : Turn X.prog X.w X.K tg J fp it tn) (st : tn 0 s2.heap) (hf : ∀ b ∈ fp, FpOk X pins H2 b)
    (hg : ∀ C fp, PG (blk X N sc cl C fp s2 H2) tg g) (hfs : ∀ C fp, PF (blk X N sc cl C fp s2 H2) ifs tf) (he : ∀ C fp, PE (blk X N sc cl C fp s2 H2) el te)
    (hW : CompW g tf te J (lift ix σ) H2 Fin)
    (hRR : ∀ D C s' ys H', H' D = none → (∃ m, s'.heap.Ns C m) → Inv X pins σ (upd H' D (.lst ys)) s' → FpOk X pins (upd H' D (.lst ys)) C → Fin ys H' → RR (.ref D) C (.ok .next) s') :
    wpAny (model X.prog X.w) X.A (newList []) (fun acc s3 => wpAny (model X.prog X.w) X.A (newFunctionEnv sc X.env.globals cl [] X.env.qual none .none (some X.env)) (fun cenv s4 =>
      codeAny (model X.prog X.w) X.A (.compStart (.ListComp el [⟨tg, src, ifs, 0⟩] sc pos) 0 (.ref it) acc { cenv with scope := relabel sc X.env }) (RR acc cenv.locals) s4) E s3) E s2 := by
  obtain ⟨W, ⟨m0, w0⟩, turn⟩ := hW
  have hb' := hb
  unfold blkOk at hb'
  simp only [Bool.and_eq_true] at hb'
  obtain ⟨⟨hk, hn⟩, hi⟩ := hb'
  have nocell : ∀ y ∈ sc.names, y.2 ≠ NameKind.cell := fun y hy => by
    have := List.all_eq_true.mp hn y hy
    simp only [Bool.and_eq_true] at this
    simpa using this.1.1
  have hkind : sc.kind = .function := eq_of_beq hk
  refine wpAny_newObj_type (wpAny_newFunctionEnv nocell (by intro y hy; simp at hy) (fun h1 hns hsb => ?_) hkind)
  dsimp only at hns hsb ⊢
  generalize hP : s2.heap.push { cls := .type "list", dict := none, data := .seq ([] : List Value).toArray } = P2 at hns hsb ⊢
  have hC : P2.objs.size = s2.heap.objs.size + 1 := by rw [← hP, Heap.size_push]
  have hDC : s2.heap.objs.size ≠ P2.objs.size := by rw [hC]; exact Nat.ne_of_lt (Nat.lt_succ_self _)
  have hCle : s2.heap.objs.size ≤ P2.objs.size := by rw [hC]; omega
  have fpo : ∀ b ∈ fp, ∃ o, s2.heap.get? b = some o := fun b hb => let ⟨o, e, _⟩ := T.obj _ _ st b hb; ⟨o, e⟩
  have old : ∀ b o, s2.heap.get? b = some o → h1.get? b = some o := fun b o e => by
    refine (hsb.2 b ?_).trans (Heap.get?_push_of_some _ (hP ▸ Heap.get?_push_of_some _ e))
    rw [hC]; exact Nat.ne_of_lt (Nat.lt_succ_of_lt (Heap.lt_size e))
  have hacc : h1.get? s2.heap.objs.size = some { cls := .type "list", dict := none, data := .seq ([] : List Value).toArray } :=
    (hsb.2 _ hDC).trans (Heap.get?_push_of_some _ (hP ▸ Heap.get?_push_size _ rfl))
  have bok : (blk X N sc cl P2.objs.size fp s2 H2).Ok := blk_ok I hb c1 c2 hf fpo hCle
  have frD : ∀ {b : Addr}, s2.heap.objs.size ≤ b → b ∉ frs X.stack := fun hb hz => by
    rcases List.mem_cons.mp (I.stkSub _ hz) with z | z
    · exact absurd (z ▸ hb) (Nat.not_le.mpr I.lt)
    · exact I.nofs hb z
  have cellD : ∀ x c, cl.lookup x = some c → c < s2.heap.objs.size := fun x c e => by
    obtain ⟨v, q⟩ := I.cell x c (c1 x c e)
    exact q.lt
  -- the start
  have I0 : Inv (blk X N sc cl P2.objs.size fp s2 H2) [(s2.heap.objs.size, { cls := .type "list", dict := none, data := .seq ([] : List Value).toArray })] (lift ix σ) H2 { s2 with heap := h1, toks := s2.toks + ([] : List (Str × Value)).length } := by
    refine ⟨bok, rfl, I.bare, Un.kept old, ⟨_, hns, fun i x v e1 e2 e3 => ?_⟩, fun x c e => ?_, I.hok.fresh hCle, fun x c e => I.freeC x c (c1 x c e), fun p hp => ?_, I.hok.kept old, ?_⟩
    · obtain ⟨k, q1, q2⟩ := lift_at e2
      obtain ⟨y, z1, z2, z3⟩ := ixOk_at i k hi q1
      have e1' : N[i]? = some x := e1
      rw [e1'] at z1
      cases z1
      have hin : (x, NameKind.free) ∈ sc.names := PySem.mem_of_lookup z3
      obtain ⟨c, hcl⟩ := c2 x hin
      have okind : X.env.scope.names.lookup x = some .cell ∨ X.env.scope.names.lookup x = some .free := by
        have := List.all_eq_true.mp hn _ hin
        simp only [Bool.and_eq_true] at this
        simpa using this.2
      obtain ⟨m, hm, hl⟩ := I.loc
      obtain ⟨u, r, l⟩ := hl k x v z2 q2 (by rcases okind with z | z; exact .inr (.inl z); exact .inr (.inr z))
      refine ⟨u, r, .inr ⟨relab_free z3, c, hcl, ?_⟩⟩
      rcases l with ⟨lk, _⟩ | ⟨_, c', hc', z⟩
      · have lk' : X.env.scope.names.lookup x = some .local := lk
        rcases okind with q | q <;> rw [q] at lk' <;> cases lk'
      · rw [c1 x c hcl] at hc'
        cases hc'
        obtain ⟨oc, ho, hd⟩ := z
        exact ⟨oc, old _ _ ho, hd⟩
    · obtain ⟨v, oc, ho, hd⟩ := I.cell x c (c1 x c e)
      exact ⟨v, oc, old _ _ ho, hd⟩
    · have hp' : p = (s2.heap.objs.size, { cls := .type "list", dict := none, data := .seq ([] : List Value).toArray }) := by
        rcases List.mem_append.mp hp with z | z
        · exact absurd (show p ∈ ([] : List (Addr × Obj)) from z) (by simp)
        · simpa using z
      subst hp'
      exact ⟨hacc, I.fresh, hDC, frD (Nat.le_refl _), fun v z => by cases z⟩
    · show (lift ix σ).length = N.length
      unfold lift
      rw [List.length_map]
      exact ixOk_len hi
  have stat : ∀ {o : Obj} {H' : Hp}, (∀ b ∈ fp, H' b = none) → ∀ b ∈ fp, FpOk (blk X N sc cl P2.objs.size fp s2 H2) [(s2.heap.objs.size, o)] H' b := fun {o H'} hz b hb => by
    obtain ⟨_, g2, g3, g4, g5, g6⟩ := hf b hb
    obtain ⟨ob, eb⟩ := fpo b hb
    have lb := Heap.lt_size eb
    refine ⟨hz b hb, ?_, ?_, .inl hb, fun x c e => g5 x c (c1 x c e), fun p hp => ?_⟩
    · show b ≠ P2.objs.size
      rw [hC]; exact Nat.ne_of_lt (Nat.lt_succ_of_lt lb)
    · intro hz
      rcases List.mem_cons.mp (I.stkSub b hz) with z | z
      · exact g2 z
      · exact g3 z
    · have hp' : p = (s2.heap.objs.size, o) := by
        rcases List.mem_append.mp hp with z | z
        · exact absurd (show p ∈ ([] : List (Addr × Obj)) from z) (by simp)
        · simpa using z
      subst hp'
      show s2.heap.objs.size ≠ b
      exact Nat.ne_of_gt lb
  -- the loop
  have loop : ∀ s4 : Shared, s4 = { s2 with heap := h1, toks := s2.toks + ([] : List (Str × Value)).length } →
      codeAny (model X.prog X.w) X.A (.compLoop (.ListComp el [⟨tg, src, ifs, 0⟩] sc pos) 0 (.ref it) (.ref s2.heap.objs.size) (compEnvC sc cl P2.objs.size X.env)) (RR (.ref s2.heap.objs.size) P2.objs.size) s4 := by
    rintro s4 rfl
    refine cloop (fun n s' => ∃ (i : Nat) (τ : St) (ys : List V) (its : List Value) (k : Nat) (H' : Hp), Vals ys its ∧ ys.length ≤ sizeLine ∧
        Inv (blk X N sc cl P2.objs.size fp s2 H2) [(s2.heap.objs.size, { cls := .type "list", data := .seq its.toArray k })] τ H' s' ∧ tn i s'.heap ∧ (∀ b ∈ fp, H' b = none) ∧ W i n τ ys H') ?_ m0
      ⟨0, _, [], [], 0, H2, .nil, Nat.zero_le _, I0, T.keep _ _ _ st fun b _ o e => old b o e, fun b hb => (hf b hb).1, w0⟩
    rintro n s5 ⟨i, τ, ys, its, k, H5, rv, hz, I5, st5, fr5, w5⟩
    rcases turn i n τ ys H5 w5 with ⟨stop, fin⟩ | ⟨go, step⟩
    · refine thn (T.done (blk X N sc cl P2.objs.size fp s2 H2) rfl rfl rfl hc i _ s5 τ H5 (fun _ _ => False) I5 (stat fr5) st5 stop) fun r s6 ⟨hr, I6⟩ => ?_
      subst hr
      obtain ⟨m, hns6, _⟩ := I6.loc
      obtain ⟨gD, fD, _, _, _⟩ := I6.pin (s2.heap.objs.size, { cls := .type "list", data := .seq its.toArray k }) (List.mem_append_right _ (by simp))
      have fD' : H5 s2.heap.objs.size = none := fD
      refine hRR _ _ s6 ys H5 fD' ⟨m, hns6⟩ ?_ (I.fpOk hCle ?_) fin
      · refine I.call' (ch := fp) I6.os (Un.grow I6.base (Nat.le_refl _) I.fresh) (HOk.grow I6.hok fD' ⟨hz, its, k, rv, gD⟩) I6.bare fun b hb => ?_
        obtain ⟨_, g2, _, g4, g5, g6⟩ := hf b hb
        exact ⟨g4, g2, g5, g6⟩
      · rw [upd_ne (Ne.symm hDC)]
        exact I6.free
    · refine thn (T.item (blk X N sc cl P2.objs.size fp s2 H2) rfl rfl rfl hc i _ s5 τ H5 (fun _ _ => False) I5 (stat fr5) st5 go) fun r s6 ⟨u, hr, h6⟩ => ?_
      subst hr
      refine thn h6 fun _ s7 ⟨x, H7, I7, r7, y7, st7, fr7⟩ => ?_
      have I7' := I7.pinned (stat fr7) (T.obj _ _ st7)
      refine thn (hg _ _ _ s7 τ H7 x u _ I7' r7 (step x H7 y7)) fun _ s8 ⟨τ8, H8, I8, q8⟩ => ?_
      refine thn (hfs _ _ _ s8 τ8 H8 _ I8 q8) fun ok s9 ⟨H9, I9, q9⟩ => ?_
      -- what the pins say behind the turn
      have tail : ∀ {s' : Shared} {τ' : St} {H' : Hp}, Inv (blk X N sc cl P2.objs.size fp s2 H2) ([(s2.heap.objs.size, { cls := .type "list", data := .seq its.toArray k })] ++ pinsAt fp s7.heap) τ' H' s' →
          (s'.heap.get? s2.heap.objs.size = some { cls := .type "list", data := .seq its.toArray k } ∧ H' s2.heap.objs.size = none) ∧ (∀ b ∈ fp, ∀ o, s7.heap.get? b = some o → s'.heap.get? b = some o) ∧ ∀ b ∈ fp, H' b = none := fun {s' τ' H'} I' => by
        refine ⟨?_, fun b hb o e => (I'.pin (b, o) (List.mem_append_right _ (List.mem_append_right _ (mem_pinsAt hb e)))).1, fun b hb => ?_⟩
        · obtain ⟨a1, a2, _⟩ := I'.pin (s2.heap.objs.size, { cls := .type "list", data := .seq its.toArray k }) (List.mem_append_right _ (List.mem_append_left _ (by simp)))
          exact ⟨a1, a2⟩
        · obtain ⟨o, e, _⟩ := T.obj _ _ st7 b hb
          exact (I'.pin (b, o) (List.mem_append_right _ (List.mem_append_right _ (mem_pinsAt hb e)))).2.1
      cases ok with
      | false =>
        obtain ⟨m', hm, w9⟩ := q9
        obtain ⟨_, k2, k3⟩ := tail I9
        exact ⟨m', hm, i + 1, τ8, ys, its, k, H9, rv, hz, I9.unpinned, T.keep _ _ _ st7 k2, k3, w9⟩
      | true =>
        refine thn (he _ _ _ s9 τ8 H9 _ I9 q9) fun v s10 ⟨y, H10, I10, r10, hl, m', hm, w10⟩ => ?_
        obtain ⟨⟨gD, fD⟩, k2, k3⟩ := tail I10
        have hlen := rv.length
        refine call_meets F.slot_list_append ⟨_, gD, rfl⟩ F.entry_list_append (F.args_list_append_2 _ _) (PySem.list_append s2.heap.objs.size its.toArray k v (by rw [List.size_toArray]; omega)) ⟨gD, ?_⟩
        obtain ⟨k', q⟩ : ∃ k', (s10.heap.update s2.heap.objs.size (Obj.mapSeq (·.push v))).get? s2.heap.objs.size = some { cls := .type "list", data := .seq (its ++ [v]).toArray k' } := by
          have q := PySem.IsL.update gD (·.push v)
          rw [show (its.toArray.push v) = (its ++ [v]).toArray from by simp] at q
          exact ⟨_, q⟩
        have other : ∀ b o, b ≠ s2.heap.objs.size → s10.heap.get? b = some o → (s10.heap.update s2.heap.objs.size (Obj.mapSeq (·.push v))).get? b = some o := fun b o hb e => (Heap.get?_update_other s10.heap _ (Ne.symm hb)).trans e
        have Ia : Inv (blk X N sc cl P2.objs.size fp s2 H2) [] τ8 H10 { s10 with heap := s10.heap.update s2.heap.objs.size (Obj.mapSeq (·.push v)), toks := s10.toks } :=
          (I10.pins_of (pins' := []) fun p hp => nomatch hp).turned other fD hDC (.inr (Nat.le_refl _)) (fun x c e => Nat.ne_of_lt (cellD x c e)) fun p hp => absurd (show p ∈ ([] : List (Addr × Obj)) from hp) (by simp)
        refine ⟨m', hm, i + 1, τ8, ys ++ [y], its ++ [v], k', H10, rv.append (.cons r10 .nil), by rw [List.length_append, List.length_singleton]; omega, ?_, T.keep _ _ _ st7 fun b hb o e => ?_, k3, w10⟩
        · refine Ia.pins_of fun p hp => ?_
          have hp' := List.mem_singleton.mp hp
          subst hp'
          exact ⟨q, fD, hDC, frD (Nat.le_refl _), fun v z => by cases z⟩
        · obtain ⟨ob, eb⟩ := fpo b hb
          exact other b o (Nat.ne_of_lt (Heap.lt_size eb)) (k2 b hb o e)
  exact codeAny_compStart_list (loop _ rfl) (T.self X.A 0 _ _ _ (T.keep _ _ _ st fun b _ o e => old b o e) (loop _ rfl))
end

section
variable {X : Cx} {N : List Str} {ix : List (Option Nat)} {sc : Scope} {el tg src : Expr} {ifs : List Expr} {wi : TI} {g : TG} {tf : TT} {te : TE} {pos : Pos}
theorem Inv.clos {pins : List (Addr × Obj)} {σ : St} {H : Hp} {s : Shared} (I : Inv X pins σ H s) (hb : blkOk X.env.scope X.N N ix sc = true) :
    ∃ cl : List (Str × Addr), closureFor sc X.env = pure cl ∧ (∀ x c, cl.lookup x = some c → X.env.cells.lookup x = some c) ∧ ∀ x, (x, NameKind.free) ∈ sc.names → ∃ c, cl.lookup x = some c := by
  refine clos_ok fun y hy hf => I.ok.has y.1 ?_
  unfold blkOk at hb
  simp only [Bool.and_eq_true] at hb
  have := List.all_eq_true.mp hb.1.2 y hy
  simp only [Bool.and_eq_true] at this
  have h2 := this.2
  rw [hf] at h2
  have h3 : X.env.scope.names.lookup y.1 = some .cell ∨ X.env.scope.names.lookup y.1 = some .free := by simpa using h2
  exact h3
theorem blk_names (hb : blkOk X.env.scope X.N N ix sc = true) : sc.kind = .function ∧ ∀ y ∈ sc.names, y.2 = .local → sc.names.lookup y.1 = some .local := by
  unfold blkOk at hb
  simp only [Bool.and_eq_true] at hb
  refine ⟨eq_of_beq hb.1.1, fun y hy hl => ?_⟩
  have := List.all_eq_true.mp hb.1.2 y hy
  simp only [Bool.and_eq_true] at this
  have h2 := this.1.2
  rw [hl] at h2
  simpa using h2
theorem pe_comp (ix : List (Option Nat)) (hc : X.calm = true) (hb : blkOk X.env.scope X.N N ix sc = true) (hi : PI X tg src wi)
    (hg : ∀ cl C fp s H, PG (blk X N sc cl C fp s H) tg g) (hf : ∀ cl C fp s H, PF (blk X N sc cl C fp s H) ifs tf) (he : ∀ cl C fp s H, PE (blk X N sc cl C fp s H) el te)
    (hs : ∀ x, foldedSetIterable src X.env x = pure x := by intro _; rfl) : PE X (.ListComp el [⟨tg, src, ifs, 0⟩] sc pos) (tComp ix wi g tf te) := by
  intro pins s σ H Q I h
  obtain ⟨cl, hcl, c1, c2⟩ := I.clos hb
  obtain ⟨hk, hn⟩ := blk_names hb
  rw [eval_ListComp]
  refine wpAny_comprehension_free (use := none) rfl hs hcl hk hn (thn (hi pins s σ H _ I h) fun xv s1 h1 => thn h1 fun itv s2 h2 => ?_)
  obtain ⟨it, fp, tn, J, H2, rfl, I2, T, st, f2, hW⟩ := h2
  refine comp_core (RR := fun acc C => compPost (model X.prog X.w) X.A X.xe none (EP X pins σ Q) acc C) I2 hc hb c1 c2 T st f2 (fun C fp => hg cl C fp s2 H2) (fun C fp => hf cl C fp s2 H2) (fun C fp => he cl C fp s2 H2) hW ?_
  intro D C s' ys H' hD ⟨m, hm⟩ I' fC fin
  refine ⟨m, hm, fun h' hs' => ⟨.ref D, _, ?_, rfl, fin D hD⟩⟩
  obtain ⟨g1, g2, _, g4, g5, g6⟩ := fC
  exact I'.turned (t' := s'.toks) (fun b o hb e => (hs'.2 b hb).trans e) g1 g2 g4 g5 g6
theorem ps_comp (ix : List (Option Nat)) {i : Nat} {x : Str} {pos' spos : Pos} (hN : X.N.Nodup) (hxi : X.N[i]? = some x) (hx : Loc X.env.scope x) (hc : X.calm = true) (hb : blkOk X.env.scope X.N N ix sc = true) (hi : PI X tg src wi)
    (hg : ∀ cl C fp s H, PG (blk X N sc cl C fp s H) tg g) (hf : ∀ cl C fp s H, PF (blk X N sc cl C fp s H) ifs tf) (he : ∀ cl C fp s H, PE (blk X N sc cl C fp s H) el te)
    (hsw : swapsWith (.ListComp el [⟨tg, src, ifs, 0⟩] sc pos) (some (.Name x pos')) spos.line X.env = pure true := by rfl)
    (hfn : X.fn x = true ∨ X.env.scope.names.lookup x = some .local := by first | exact .inl rfl | exact .inr rfl | assumption)
    (hs : ∀ x, foldedSetIterable src X.env x = pure x := by intro _; rfl) : PS X (.Assign [.Name x pos'] (.ListComp el [⟨tg, src, ifs, 0⟩] sc pos) spos) (tAsg (tComp ix wi g tf te) (gName i)) := by
  intro pins s σ H D0 I h
  obtain ⟨cl, hcl, c1, c2⟩ := I.clos hb
  obtain ⟨hk, hn⟩ := blk_names hb
  rw [exec_Assign_Name_used _ _ _ _ hsw]
  refine wpAny_bind (wpAny_standAt (wpAny_bind ?_))
  show wpAny _ X.A (do let _ ← comprehension (.ListComp el [⟨tg, src, ifs, 0⟩] sc pos) sc X.env _ (newList []) false (eval src X.env) (some (assign (.Name x pos') X.env))) _ _ s
  refine wpAny_bind (thn (wpAny_comprehension_free (use := some (assign (.Name x pos') X.env)) (Q := fun _ s' => SP X pins D0 .next s') rfl hs hcl hk hn (thn (hi pins s σ H _ I h) fun xv s1 h1 => thn h1 fun itv s2 h2 => ?_)) fun _ s' hq => wpAny_pure (wpAny_pure hq))
  obtain ⟨it, fp, tn, J, H2, rfl, I2, T, st, f2, hW⟩ := h2
  refine comp_core (RR := fun acc C => compPost (model X.prog X.w) X.A X.xe (some (assign (.Name x pos') X.env)) (fun _ s' => SP X pins D0 .next s') acc C) I2 hc hb c1 c2 T st f2 (fun C fp => hg cl C fp s2 H2) (fun C fp => hf cl C fp s2 H2) (fun C fp => he cl C fp s2 H2) hW ?_
  intro D C s' ys H' hD ⟨m, hm⟩ I' fC fin
  obtain ⟨g1, g2, _, g4, g5, g6⟩ := fC
  show wpAny _ X.A (assign (.Name x pos') X.env (.ref D)) _ _ _
  refine wpAny_assign_Name (store_ok2 (v := .ref D) I' hN hxi hx rfl (fun s'' I'' ⟨a, sb, ha⟩ => ?_) hfn)
  have hCa : C ≠ a := by
    rcases ha with z | z
    · rw [z]; exact g2
    · exact fun e => g5 x a z e.symm
  refine ⟨m, hm.sameBut sb hCa, fun h' hs' => ⟨_, _, I''.turned (t' := s''.toks) (fun b o hb e => (hs'.2 b hb).trans e) g1 g2 g4 g5 g6, fin D hD⟩⟩
end

theorem comp_range {lo : Int} {n : Nat} {tf : TT} {te : TE} {τ0 : St} {H : Hp} {Fin : List V → Hp → Prop} (f : Nat → V) (hn : n ≤ sizeLine)
    (hte : ∀ i H' Q, i < n → Same H H' → (∀ H'', Same H' H'' → Q (f i) H'') → tf (τ0.set 0 (some (.int (lo + i)))) H' fun b H3 => b = true ∧ te (τ0.set 0 (some (.int (lo + i)))) H3 Q)
    (mono : ∀ τ H Q Q', (∀ b H1, Q b H1 → Q' b H1) → tf τ H Q → tf τ H Q')
    (hfin : ∀ H', Same H H' → Fin ((List.range n).map f) H') : CompW (gName 0) tf te (Itr lo n) τ0 H Fin := by
  refine ⟨fun i m τ ys H' => m = n - i ∧ i ≤ n ∧ ys = (List.range i).map f ∧ Same H H' ∧ ∃ v, τ = τ0.set 0 v ∨ τ = τ0, ⟨n, rfl, Nat.zero_le _, rfl, Same.refl _, none, .inr rfl⟩, ?_⟩
  rintro i m τ ys H' ⟨rfl, hi, rfl, sm, v, hτ⟩
  by_cases hlt : i < n
  · refine .inr ⟨hlt, fun x H'' y => ?_⟩
    obtain ⟨e, y⟩ := y
    subst e y
    have e2 : τ.set 0 (some (V.int (lo + i))) = τ0.set 0 (some (V.int (lo + i))) := by
      rcases hτ with rfl | rfl
      · rw [List.set_set]
      · rfl
    show tf (τ.set 0 (some (V.int (lo + i)))) H'' _
    rw [e2]
    refine mono _ _ _ _ ?_ (hte i H'' (fun y H4 => ((List.range i).map f).length < sizeLine ∧ ∃ m', m' < n - i ∧ (m' = n - (i + 1) ∧ i + 1 ≤ n ∧ (List.range i).map f ++ [y] = (List.range (i + 1)).map f ∧ Same H H4 ∧ ∃ v, τ0.set 0 (some (V.int (lo + i))) = τ0.set 0 v ∨ τ0.set 0 (some (V.int (lo + i))) = τ0)) hlt sm fun H4 s4 => ?_)
    · rintro b H1 ⟨rfl, q⟩
      rw [if_pos rfl]
      exact q
    · refine ⟨by rw [List.length_map, List.length_range]; omega, n - (i + 1), by omega, rfl, hlt, by rw [List.range_succ, List.map_append]; rfl, sm.trans s4, _, .inl rfl⟩
  · have e : i = n := by omega
    subst e
    exact .inl ⟨Nat.le_refl _, hfin H' sm⟩
theorem comp_list {K : PySem.W.Frag} {a : Addr} {xs : List V} {te : TE} {τ0 : St} {H : Hp} {Fin : List V → Hp → Prop} (f : V → V) (hn : xs.length ≤ sizeLine) (hl : SqL K H a xs)
    (hte : ∀ x H' Q, x ∈ xs → Same H H' → (∀ H'', Same H' H'' → Q (f x) H'') → te (τ0.set 0 (some x)) H' Q)
    (hfin : ∀ H', Same H H' → Fin (xs.map f) H') : CompW (gName 0) tYes te (Itl K a) τ0 H Fin := by
  refine ⟨fun i m τ ys H' => m = xs.length - i ∧ i ≤ xs.length ∧ ys = (xs.take i).map f ∧ Same H H' ∧ ∃ v, τ = τ0.set 0 v ∨ τ = τ0, ⟨xs.length, rfl, Nat.zero_le _, rfl, Same.refl _, none, .inr rfl⟩, ?_⟩
  rintro i m τ ys H' ⟨rfl, hi, rfl, sm, v, hτ⟩
  by_cases hlt : i < xs.length
  · refine .inr ⟨⟨xs, xs[i], sm.seq hl, by simp [hlt]⟩, fun x H'' y => ?_⟩
    obtain ⟨e, y⟩ := y
    subst e
    have hx := y xs (sm.seq hl)
    have e2 : τ.set 0 (some x) = τ0.set 0 (some x) := by
      rcases hτ with rfl | rfl
      · rw [List.set_set]
      · rfl
    unfold gName tYes
    rw [e2]
    dsimp only
    rw [if_pos rfl]
    refine hte x H'' _ (List.mem_of_getElem? hx) sm fun H4 s4 => ?_
    refine ⟨by rw [List.length_map, List.length_take]; omega, xs.length - (i + 1), by omega, rfl, hlt, ?_, sm.trans s4, _, .inl rfl⟩
    rw [List.take_add_one, hx, List.map_append]
    rfl
  · have e : i = xs.length := by omega
    subst e
    exact .inl ⟨⟨xs, sm.seq hl, Nat.le_refl _⟩, by have := hfin H' sm; rw [List.take_length]; exact this⟩
end L2

set_option maxHeartbeats 4000000
namespace L2
open PySem PySem.Spec PyProof.Rows

theorem ite2d {c A B : Prop} [Decidable c] (h1 : c → A) (h2 : ¬ c → B) : if decide c = true then A else B := by
  by_cases h : c
  · rw [if_pos (decide_eq_true h)]; exact h1 h
  · rw [if_neg (by simpa using h)]; exact h2 h
theorem iteVi {i j : Int} {A B : Prop} (h1 : i = j → A) (h2 : ¬ i = j → B) : if decide (V.int i = V.int j) = true then A else B :=
  ite2d (fun h => h1 (V.int.inj h)) fun h => h2 fun e => h (congrArg V.int e)
theorem iteNe {x y : V} {A B : Prop} (e : x = y) (h : B) : if (!decide (x = y)) = true then A else B := by
  rw [if_neg (by simp [e])]; exact h
theorem Same.new {H : Hp} {p : Addr} {o : HO} (h : H p = none) : Same H (upd H p o) := fun b u e => by
  rw [upd_ne (ne_of_none e h)]; exact e
theorem Same.put {H H' : Hp} {p : Addr} {o : HO} (s : Same H H') (h : H' p = none) : Same H (upd H' p o) := s.trans (Same.new h)
theorem Same.over {H H' : Hp} {p : Addr} {o : HO} (s : Same H H') (h : H p = none) : Same H (upd H' p o) := fun b u e => by
  rw [upd_ne (ne_of_none e h)]; exact s b u e
structure FnAt (K : PySem.W.Frag) (mg : Str → Option Value) (x : Str) (st : Stmt) (ps : List Str) (f : Addr) (fd : FuncData) : Prop where
  F : Fun K x x st f fd
  b : Binds K fd ps []
  m : mg x = some (.ref f)
section
variable {X : Cx} {k : Nat} {f : Addr} {fd : FuncData} {ps : List Str} {sp : Sp} {x : Str} {st : Stmt} {p pos : Pos} {e : Expr} {es : List Expr} {t : TA}
theorem pcall (A : FnAt X.K X.mg x st ps f fd) (G : FnOk X.prog X.w X.K X.mg X.base CX0 k f fd ps sp) (hr : Room k X.A) (ha : PA X (e :: es) t) (hg : Gl X x := by rfl)
    (hdb : (x == ("__debug__" : Str)) = false := by decide) (he : starEach (e :: es) X.env = (false, eval e X.env) :: starEach es X.env := by rfl) (hpl : (backTo pos (starEach es X.env)).any (·.1) = false := by rfl) :
    PE X (.Call (.Name x p) (e :: es) [] pos) (tCall sp [] E0 t) := pe_call G hr hg A.m A.F.kp A.b .nil pass0 ha hdb he hpl
end
noncomputable def Pur (v : V) (H : Hp) (Q : VK) : Prop := ∀ H', Same H H' → Q v H'
end L2

namespace Mine
open PySem PySem.Spec PyProof.Rows L2
noncomputable def spSub : Sp := fun vs H Q _ => ∃ (c j : Int), vs = [.int c, .int j] ∧ 0 ≤ j ∧ j ≤ 1000 ∧ Pur (.int (sub c j)) H Q
noncomputable def spNumber : Sp := fun vs H Q _ => ∃ (c far : Int), vs = [.int c, .int far] ∧ 0 < far ∧ Pur (.int (number c far)) H Q
noncomputable def spPick : Sp := fun vs H Q _ => ∃ (c k m : Int), vs = [.int c, .int k, .int m] ∧ 0 ≤ k ∧ k < 40 ∧ 0 < m ∧ Pur (.int (pick c k m)) H Q
noncomputable def spName : Sp := fun vs H Q _ => ∃ (c : Int), vs = [.int c] ∧ Pur (.str (name c)) H Q
end Mine

set_option maxHeartbeats 4000000
namespace L2
open PySem PySem.Spec PyProof.Rows

section
variable {X : Cx}
noncomputable def rSlS : V → Option Int → Option Int → Hp → VK → Prop := fun x lo hi H Q => ∃ z, x = .str z ∧ z.length ≤ sizeLine ∧ Q (.str (Txt.slice z lo hi)) H
theorem part_of {v : Value} {o : Option Int} (p : IsPart v o) : ∃ l : Option (Int × Tok), v = partValue l ∧ o = l.map (·.1) := by
  cases p with
  | none => exact ⟨none, rfl, rfl⟩
  | int i t => exact ⟨some (i, t), rfl, rfl⟩
theorem sl_str : SlR X rSlS := by
  intro pins s σ H x v vl vu lo hi sl Q I rx hs pl pu h
  obtain ⟨z, rfl, hz, q⟩ := h
  obtain ⟨t, rfl⟩ := rx
  obtain ⟨l, rfl, rfl⟩ := part_of pl
  obtain ⟨u, rfl, rfl⟩ := part_of pu
  obtain ⟨os, h1, h2, h3⟩ := hs
  refine ⟨"str", _, F.slot_str_getitem.lookup, typeIs_str _ _ _, ?_⟩
  exact wpAny_getItem_str_slice (l := l) (u := u) (st := none) ⟨os, h1, h2, h3⟩ rfl (post_val_or_str ⟨Nat.le_trans (Txt.slice_le z _ _) hz, fun t' k => ⟨.str _, H, I.tok k, ⟨t', rfl⟩, q⟩⟩)

noncomputable def Its (z : Str) : It := ⟨fun i _ => i < z.cps.size, fun i H x H' => H' = H ∧ ∃ c, z.cps.toList[i]? = some c ∧ x = .str ⟨#[c]⟩, fun i _ => z.cps.size ≤ i⟩
theorem turn_str {P : Program} {w : World} {K : PySem.W.Frag} {tg : Expr} (it : Addr) (z : Str) (t : Tok) (ty : String)
    (hW : ∀ A : Around, A.handled = none → Walks P w A it [it] [it] z.cps.size (SignAt z) (fun i h => h.IsStrIter it ty z t i))
    (hn : ["enumerate", "zip", "dict_itemiterator", "dict_reverseitemiterator", "odict_iterator", "itertools.zip_longest", "itertools.pairwise"].contains ty = false)
    (hself : ∀ (A : Around) (i : Nat) (s : Shared) (Q : Value → Shared → Prop) (E : Value → Shared → Prop), s.heap.IsStrIter it ty z t i → Q (.ref it) s → wpAny (model P w) A (pyIter (.ref it)) Q E s) :
    Turn P w K tg (Its z) [it] it (fun i h => i ≤ z.cps.size ∧ h.IsStrIter it ty z t i) where
  mem := by simp
  obj := fun i h st b hb => by
    have e : b = it := by simpa using hb
    subst e
    obtain ⟨_, o, e, c, d⟩ := st
    exact ⟨o, e, fun v z => by rw [d] at z; cases z⟩
  keep := fun i h h' st k => by
    obtain ⟨hi, o, e, r⟩ := st
    exact ⟨hi, o, k it (by simp) o e, r⟩
  item := by
    intro X hP hw hK hc i pins s σ H E I hf st hg
    subst hP hw hK
    obtain ⟨f0, f1, f2, f3, f4, f5⟩ := hf it (by simp)
    refine (hW X.A (I.ok.hd hc)).item i s _ _ hg st.2 fun v h' tk hv st' kk => ?_
    obtain ⟨c, u, hx, rfl⟩ := hv
    have I1 : Inv X pins σ H { s with heap := h', toks := tk } := I.turned (fun b o hb e => kk b o (by simpa using hb) e) f0 f1 f3 f4 f5
    obtain ⟨o, e, hcl, d⟩ := id st'
    exact ⟨_, rfl, go_of (s := { s with heap := h', toks := tk }) e hcl d hn ⟨.str ⟨#[c]⟩, H, I1, ⟨u, rfl⟩, ⟨rfl, c, by simpa using hx, rfl⟩, ⟨hg, st'⟩, fun b hb => (hf b hb).1⟩⟩
  done := by
    intro X hP hw hK hc i pins s σ H E I hf st hg
    subst hP hw hK
    obtain ⟨f0, f1, f2, f3, f4, f5⟩ := hf it (by simp)
    obtain ⟨hi, st⟩ := st
    have e : i = z.cps.size := Nat.le_antisymm hi hg
    subst e
    exact (hW X.A (I.ok.hd hc)).done s _ _ st fun h' tk kk => ⟨rfl, I.turned (fun b o hb e => kk b o (by simpa using hb) e) f0 f1 f3 f4 f5⟩
  self := fun A i s Q E st h => hself A i s Q E st.2 h
noncomputable def iStr (tl : TE) : TI := fun σ H R => tl σ H fun x H1 => ∃ z, x = .str z ∧ R (Its z) H1
theorem pi_str {tg l : Expr} {tl : TE} (hl : PE X l tl) : PI X tg l (iStr tl) := by
  intro pins s σ H R I h
  refine thn (hl pins s σ H _ I h) fun v s1 ⟨x, H1, I1, r1, q1⟩ => ?_
  obtain ⟨z, rfl, q⟩ := q1
  obtain ⟨t, rfl⟩ := r1
  have fin : ∀ (o : Obj) (b : Addr), b ∈ [s1.heap.objs.size] → FpOk X pins H1 b := fun o b hb => by
    have e : b = s1.heap.objs.size := by simpa using hb
    subst e
    exact I1.fpOk (Nat.le_refl _) (I1.hok.fresh (Nat.le_refl _))
  cases ha : z.cps.all (· < 128)
  · refine wpAny_pyIter_wide ha ?_
    exact ⟨s1.heap.objs.size, [s1.heap.objs.size], _, _, H1, rfl, I1.kept (t' := s1.toks) fun b o e => Heap.get?_push_of_some _ e,
      turn_str _ z t "str_iterator" (fun A hA => Walks.strWide hA _ z t) (by decide) (fun A i s Q E st h => wpAny_pyIter_striter_wide st h), ⟨Nat.zero_le _, _, Heap.get?_push_size _ rfl, rfl, rfl⟩, fin default, q⟩
  · refine wpAny_pyIter_ascii ha ?_
    exact ⟨s1.heap.objs.size, [s1.heap.objs.size], _, _, H1, rfl, I1.kept (t' := s1.toks) fun b o e => Heap.get?_push_of_some _ e,
      turn_str _ z t "str_ascii_iterator" (fun A hA => Walks.strAscii hA _ z t) (by decide) (fun A i s Q E st h => wpAny_pyIter_striter_ascii st h), ⟨Nat.zero_le _, _, Heap.get?_push_size _ rfl, rfl, rfl⟩, fin default, q⟩
theorem comp_str {z : Str} {te : TE} {τ0 : St} {H : Hp} {Fin : List V → Hp → Prop} (f : Nat → V) (hn : z.length ≤ sizeLine)
    (hte : ∀ c H' Q, c ∈ z.cps.toList → Same H H' → (∀ H'', Same H' H'' → Q (f c) H'') → te (τ0.set 0 (some (.str ⟨#[c]⟩))) H' Q)
    (hfin : ∀ H', Same H H' → Fin (z.cps.toList.map f) H') : CompW (gName 0) tYes te (Its z) τ0 H Fin := by
  have hz : z.cps.size = z.cps.toList.length := by simp
  have hn' : z.cps.toList.length ≤ sizeLine := by rw [← hz]; exact hn
  refine ⟨fun i m τ ys H' => m = z.cps.size - i ∧ i ≤ z.cps.size ∧ ys = (z.cps.toList.take i).map f ∧ Same H H' ∧ ∃ v, τ = τ0.set 0 v ∨ τ = τ0, ⟨z.cps.size, rfl, Nat.zero_le _, rfl, Same.refl _, none, .inr rfl⟩, ?_⟩
  rintro i m τ ys H' ⟨rfl, hi, rfl, sm, v, hτ⟩
  by_cases hlt : i < z.cps.size
  · refine .inr ⟨hlt, fun x H'' y => ?_⟩
    obtain ⟨e, c, hc, y⟩ := y
    subst e y
    have e2 : τ.set 0 (some (V.str ⟨#[c]⟩)) = τ0.set 0 (some (V.str ⟨#[c]⟩)) := by
      rcases hτ with rfl | rfl
      · rw [List.set_set]
      · rfl
    unfold gName tYes
    rw [e2]
    dsimp only
    rw [if_pos rfl]
    refine hte c H'' _ (List.mem_of_getElem? hc) sm fun H4 s4 => ?_
    refine ⟨by rw [List.length_map, List.length_take]; omega, z.cps.size - (i + 1), by omega, rfl, hlt, ?_, sm.trans s4, _, .inl rfl⟩
    rw [List.take_add_one, hc, List.map_append]
    rfl
  · have e : i = z.cps.size := by omega
    subst e
    exact .inl ⟨Nat.le_refl _, by have := hfin H' sm; rw [hz, List.take_length]; exact this⟩

theorem bls_at {bs : List Bool} : ∀ {us : List Value} {i : Nat} {v : Value}, Vals (bs.map V.bl) us → us[i]? = some v → v = .bool (bs.getD i false) := by
  induction bs with
  | nil => intro us i v r h; rw [List.map_nil] at r; cases r; simp at h
  | cons b bs ih =>
    intro us i v r h
    rw [List.map_cons] at r
    cases r with
    | cons r1 r2 =>
      cases i with
      | zero =>
        have r1' : _ = Value.bool b := r1
        simp at h
        rw [← h, r1']
        rfl
      | succ i => exact ih r2 (by simpa using h)
theorem range_all (bs : List Bool) : (List.range bs.length).all (fun i => bs.getD i false) = bs.all id := by
  have e : (List.range bs.length).map (fun i => bs.getD i false) = bs := by
    apply List.ext_getElem
    · simp
    · intro i h1 h2
      simp [List.getD_eq_getElem?_getD, h2]
  conv => rhs; rw [← e]
  rw [List.all_map]; rfl
theorem range_any (bs : List Bool) : (List.range bs.length).any (fun i => bs.getD i false) = bs.any id := by
  have e : (List.range bs.length).map (fun i => bs.getD i false) = bs := by
    apply List.ext_getElem
    · simp
    · intro i h1 h2
      simp [List.getD_eq_getElem?_getD, h2]
  conv => rhs; rw [← e]
  rw [List.any_map]; rfl
noncomputable def rAll (K : PySem.W.Frag) (f : List Bool → Bool) : List V → Hp → VK → Prop := fun xs H Q => ∃ p bs, xs = [.ref p] ∧ SqL K H p (bs.map V.bl) ∧ Q (.bl (f bs)) H
theorem call_all (hc : X.calm = true) : CallR X (.builtin "all") (rAll X.K fun bs => bs.all id) := by
  intro pins s σ H xs us Q I r h
  obtain ⟨p, bs, rfl, hq, q⟩ := h
  obtain ⟨u, rfl, rx⟩ := vals1 r
  cases (show u = Value.ref p from rx)
  obtain ⟨its, rv, pl, hz⟩ := I.list hq
  have hlen := rv.length
  rw [List.length_map] at hlen
  have hne : p ≠ s.heap.objs.size := by
    obtain ⟨o, e, _⟩ := pl.isList
    exact Nat.ne_of_lt (Heap.lt_size e)
  refine call_all_walk (wpAny_pyIter_list pl.isList ?_)
  refine ⟨s.heap.objs.size, _, _, _, _, _, fun i => bs.getD i false, rfl, Walks.list (show X.A.in1.handled = none from I.ok.hd hc) s.heap.objs.size p hne its.toArray, ⟨⟨_, Heap.get?_push_size _ rfl, rfl, rfl⟩, ?_⟩, fun i v s' Q' E' hP hQ => ?_, fun h' tk kk => ?_⟩
  · exact pl.isList.at fun o e => Heap.get?_push_of_some _ e
  · have e := bls_at rv (by simpa using hP)
    subst e
    exact wpAny_truthy_bool hQ
  · have e : (List.range its.toArray.size).all (fun i => bs.getD i false) = bs.all id := by rw [List.size_toArray, ← hlen]; exact range_all bs
    rw [e]
    refine ⟨.bl _, H, I.kept fun b o e => ?_, rfl, q⟩
    exact kk b o (fun z => absurd (Heap.lt_size e) (by rw [List.mem_singleton.mp z]; exact Nat.lt_irrefl _)) (Heap.get?_push_of_some _ e)
end
end L2

set_option maxHeartbeats 4000000
namespace L2
open PySem PySem.Spec PyProof.Rows
section
variable {X : Cx} {K : PySem.W.Frag}
theorem mt_joinK (h : X.K = K) : MtR X "str.join" (rJoin K) := by subst h; exact mt_join
theorem sl_listK (h : X.K = K) : SlR X (rSlL K) := by subst h; exact sl_list
theorem ix_listK (h : X.K = K) : IxR X (rIxL K) := by subst h; exact ix_list
theorem ix_tupK (h : X.K = K) : IxR X (rIxT K) := by subst h; exact ix_tup
theorem pi_listK {tg l : Expr} {tl : TE} (h : X.K = K) (hl : PE X l tl) : PI X tg l (iList K tl) := by subst h; exact pi_list hl
variable {o e : Expr} {es : List Expr} {to : TE} {t : TA} {name : Str} {apos cpos : Pos} {T id : String} {r : V → List V → Hp → VK → Prop}
theorem pe_bmK (h : X.K = K) (pa : PlainAttrs T) (slot : Slot T name id) (hty : typeOf (.builtin id) = pure (.type "method_descriptor")) (hm : MtR X id r) (ho : PE X o to) (ha : PA X (e :: es) t)
    (hbase : attributeBase o name X.env (eval o X.env) = eval o X.env := by rfl)
    (hfew : ((backTo cpos (starEach (e :: es) X.env)).all (fun x => !x.1) && (backToKw cpos (keywordEach [] X.env)).all (fun x => x.1.isSome)
      && decide ((e :: es).length + ([] : List Keyword).length + (if ([] : List Keyword).isEmpty then 0 else 1) < 30)) = true := by rfl)
    (hline : (apos.endLine == cpos.line) = true := by rfl) (hs : starEach (e :: es) X.env = (false, eval e X.env) :: starEach es X.env := by rfl) (hplain : (backTo cpos (starEach es X.env)).any (·.1) = false := by rfl) :
    PE X (.Call (.Attribute o name apos) (e :: es) [] cpos) (tBM K T r to t) := by
  subst h
  exact pe_bm pa slot hty hm ho ha hbase hfew hline hs hplain
end
end L2

set_option maxHeartbeats 4000000
namespace L2
open PySem PySem.Spec PyProof.Rows
structure QS (X : Cx) (st : Stmt) (t : TS) : Prop where
  h : PS X st t
structure QSs (X : Cx) (st : List Stmt) (t : TS) : Prop where
  h : PSs X st t
section
variable {X : Cx} {st : Stmt} {rest : List Stmt} {t u : TS} {e : Expr} {te : TE} {pos : Pos}
theorem qss_nil : QSs X [] tNext := ⟨pss_nil⟩
theorem qss_cons (h1 : QS X st t) (h2 : QSs X rest u) : QSs X (st :: rest) (tSeq t u) := ⟨pss_cons h1.h h2.h⟩
theorem qss_one (h1 : QS X st t) : QSs X [st] t := ⟨pss_one h1.h⟩
theorem qs_never : QS X st tNever := ⟨ps_never⟩
theorem qs_expr (he : PE X e te) (hs : swapsWith e none pos.line X.env = pure false := by rfl) : QS X (.Expr e pos) (tDrop te) := ⟨ps_expr he hs⟩
theorem qs_ret (he : PE X e te) : QS X (.Return (some e) pos) (tRet te) := ⟨ps_ret he⟩
theorem qs_if {c : Expr} {a b : List Stmt} {tc : TT} (hc : PT X c tc) (ha : QSs X a t) (hb : QSs X b u) : QS X (.If c a b pos) (tIfS tc t u) := ⟨ps_if hc ha.h hb.h⟩
theorem qs_for {tg iter : Expr} {body : List Stmt} {wi : TI} {g : TG} {tb : TS} (hp : PassesOwn (model X.prog X.w) X.A X.env X.xe) (hc : X.calm = true) (hi : PI X tg iter wi) (hg : PG X tg g) (hb : QSs X body tb) (hs : ∀ x, foldedSetIterable iter X.env x = pure x := by intro _; rfl) : QS X (.For tg iter body [] pos) (tFor wi g tb) := ⟨ps_for hp hc hi hg hb.h hs⟩
theorem qs_asg {tg : Expr} {g : TG} (he : PE X e te) (hg : PG X tg g) (hs : swapsWithSole [tg] e pos.line X.env = pure false := by rfl) (hw : swappedStores [tg] e X.env = pure none := by rfl)
    (h1 : (assignEach [tg] X.env).map (·.2) = [assign tg X.env] := by rfl) : QS X (.Assign [tg] e pos) (tAsg te g) := ⟨ps_asg he hg hs hw h1⟩
theorem qs_set {i : Nat} {x : Str} {pos' : Pos} (hN : X.N.Nodup) (hi : X.N[i]? = some x) (hx : Loc X.env.scope x) (he : PE X e te) (hs : swapsWith e (some (.Name x pos')) pos.line X.env = pure false := by rfl) (hf : X.fn x = true ∨ X.env.scope.names.lookup x = some .local := by first | exact .inl rfl | exact .inr rfl | assumption) :
    QS X (.Assign [.Name x pos'] e pos) (tAsg te (gName i)) := ⟨ps_set hN hi hx he hs hf⟩
end
section
variable {X : Cx} {N : List Str} {sc : Scope} {el tg src : Expr} {ifs : List Expr} {wi : TI} {g : TG} {tf : TT} {te : TE} {pos : Pos}
theorem qs_comp (ix : List (Option Nat)) {i : Nat} {x : Str} {pos' spos : Pos} (hN : X.N.Nodup) (hxi : X.N[i]? = some x) (hx : Loc X.env.scope x) (hc : X.calm = true) (hb : blkOk X.env.scope X.N N ix sc = true) (hi : PI X tg src wi)
    (hg : ∀ cl C fp s H, PG (blk X N sc cl C fp s H) tg g) (hf : ∀ cl C fp s H, PF (blk X N sc cl C fp s H) ifs tf) (he : ∀ cl C fp s H, PE (blk X N sc cl C fp s H) el te)
    (hsw : swapsWith (.ListComp el [⟨tg, src, ifs, 0⟩] sc pos) (some (.Name x pos')) spos.line X.env = pure true := by rfl)
    (hfn : X.fn x = true ∨ X.env.scope.names.lookup x = some .local := by first | exact .inl rfl | exact .inr rfl | assumption)
    (hs : ∀ x, foldedSetIterable src X.env x = pure x := by intro _; rfl) : QS X (.Assign [.Name x pos'] (.ListComp el [⟨tg, src, ifs, 0⟩] sc pos) spos) (tAsg (tComp ix wi g tf te) (gName i)) :=
  ⟨ps_comp ix hN hxi hx hc hb hi hg hf he hsw hfn hs⟩
end
structure QA (X : Cx) (es : List Expr) (t : TA) : Prop where
  h : PA X es t
section
variable {X : Cx} {e : Expr} {es : List Expr} {te : TE} {t : TA} {pos : Pos}
theorem qa_nil : QA X [] tNil := ⟨pa_nil⟩
theorem qa_cons (ha : PE X e te) (hr : QA X es t) (hs : starEach (e :: es) X.env = (false, eval e X.env) :: starEach es X.env := by rfl) : QA X (e :: es) (tCons te t) := ⟨pa_cons ha hr.h hs⟩
theorem qe_lst (h : QA X es t) : PE X (.List es pos) (tLst t) := pe_lst h.h
end
structure QE (X : Cx) (e : Expr) (t : TE) : Prop where
  h : PE X e t
section
variable {X : Cx} {a b e : Expr} {ta tb te : TE} {es : List Expr} {t : TA} {pos : Pos}
theorem qe_lstQ (h : QA X es t) : QE X (.List es pos) (tLst t) := ⟨pe_lst h.h⟩
theorem qe_ix {r : R2} (hr : IxR X r) (ha : QE X a ta) (hb : PE X b tb) (hs : PlainIx b) : QE X (.Subscript a b pos) (tOp r ta tb) := ⟨pe_ix hr ha.h hb hs⟩
theorem qs_setQ {i : Nat} {x : Str} {pos' : Pos} (hN : X.N.Nodup) (hi : X.N[i]? = some x) (hx : Loc X.env.scope x) (he : QE X e te) (hs : swapsWith e (some (.Name x pos')) pos.line X.env = pure false := by rfl) (hf : X.fn x = true ∨ X.env.scope.names.lookup x = some .local := by first | exact .inl rfl | exact .inr rfl | assumption) :
    QS X (.Assign [.Name x pos'] e pos) (tAsg te (gName i)) := ⟨ps_set hN hi hx he.h hs hf⟩
end
end L2

set_option maxHeartbeats 4000000
namespace L2
open PySem PySem.Spec PyProof.Rows
section
variable {X : Cx} {x : Str} {pos : Pos}
theorem pgl_str {y : Str} (h : ∃ t, X.mg x = some (.str y t)) (hg : Gl X x := by rfl) (hd : (x == ("__debug__" : Str)) = false := by decide) : PE X (.Name x pos) (tC (.str y)) := by
  obtain ⟨t, e⟩ := h
  exact pe_glob hg e ⟨t, rfl⟩ hd
theorem pgl_int {y : Int} (h : ∃ t, X.mg x = some (.int y t)) (hg : Gl X x := by rfl) (hd : (x == ("__debug__" : Str)) = false := by decide) : PE X (.Name x pos) (tC (.int y)) := by
  obtain ⟨t, e⟩ := h
  exact pe_glob hg e ⟨t, rfl⟩ hd
end
theorem kit_ty {K : PySem.W.Frag} {n m : String} {b : Bool} (h0 : (Value.type n == Value.type m) = false) (h1 : PySem.W.kitMeta m = true) (h2 : (fastBuiltinMro n).map (·.contains (Value.type m)) = some b) : PySem.W.kitOne K (.type n) (.type m) = some b := by
  unfold PySem.W.kitOne
  rw [if_neg (by rw [h0]; decide)]
  show (if PySem.W.kitMeta m = true then PySem.W.subIn K (.type n) (.type m) else none) = some b
  rw [if_pos h1]
  exact h2
end L2
namespace Mine
open PySem PySem.Spec PyProof.Rows L2 PySem.Builtin PySem.Builtin.Str
theorem appLen (a b : Str) : (a ++ b).length = a.length + b.length := by rw [strLen, strLen, strLen, strApp, List.length_append]
theorem inter_len {c : Nat} : ∀ {ys : List (List Nat)} {y : List Nat}, y ∈ ys → y.length ≤ (inter c ys).length
  | [], _, h => nomatch h
  | [x], y, h => by rw [List.mem_singleton.mp h]; exact Nat.le_refl _
  | x :: z :: r, y, h => by
    show y.length ≤ (x ++ c :: inter c (z :: r)).length
    rw [List.length_append, List.length_cons]
    rcases List.mem_cons.mp h with e | h
    · rw [e]; omega
    · have := inter_len (c := c) h; omega
theorem join_part {c : Nat} {ys : List Str} {y : Str} (h : y ∈ ys) : y.length ≤ (Str.join ⟨#[c]⟩ ys).length := by
  rw [strLen, strLen, join_codes]
  exact inter_len (List.mem_map.mpr ⟨y, h, rfl⟩)
theorem split_part {c : Nat} {x y : Str} (h : y ∈ Txt.split x ⟨#[c]⟩) : y.length ≤ x.length := by
  have := join_part (c := c) h
  rw [StrLaws.join_split] at this
  exact this
theorem split_dot {x y : Str} (h : y ∈ Txt.split x ("." : Str)) : y.length ≤ x.length := by rw [dot_eq] at h; exact split_part h
theorem line_big : 1000 ≤ sizeLine := by decide
theorem dotlen : (("." : Str)).length = 1 := by decide +kernel
theorem dotlen0 : ((("." : Str)).length == 0) = false := by decide +kernel
noncomputable def inL (c : Nat) : Bool := !(Builtin.Str.occurrences letters (⟨#[c]⟩ : Str) 0 letters.length 1).isEmpty
noncomputable def nmB (z : Str) : Bool := decide (1 ≤ z.length) && decide (z.length ≤ 8) && z.cps.toList.all inL
end Mine
namespace L2
open PySem PySem.Spec PyProof.Rows
theorem iteTb {b : Bool} {A B : Prop} (e : b = true) (h : A) : if b = true then A else B := by rw [if_pos e]; exact h
theorem iteFb {b : Bool} {A B : Prop} (e : b = false) (h : B) : if b = true then A else B := by rw [if_neg (by rw [e]; decide)]; exact h
theorem iteNTb {b : Bool} {A B : Prop} (e : b = true) (h : B) : if (!b) = true then A else B := by rw [if_neg (by rw [e]; decide)]; exact h
theorem iteNFb {b : Bool} {A B : Prop} (e : b = false) (h : A) : if (!b) = true then A else B := by rw [if_pos (by rw [e]; decide)]; exact h
end L2

set_option maxHeartbeats 4000000
namespace Mine
open PySem PySem.Spec PyProof.Rows L2 PySem.Builtin PySem.Builtin.Str
noncomputable def figs : Str := "0123456789"
noncomputable def zero : Str := "0"
noncomputable def inF (c : Nat) : Bool := !(Builtin.Str.occurrences figs (⟨#[c]⟩ : Str) 0 figs.length 1).isEmpty
theorem inF_dig {c : Nat} (h0 : 48 ≤ c) (h1 : c ≤ 57) : inF c = true := by
  have h : ∀ n : Fin 10, inF (48 + n.val) = true := by decide +kernel
  have := h ⟨c - 48, by omega⟩
  rwa [show 48 + (⟨c - 48, by omega⟩ : Fin 10).val = c from by show 48 + (c - 48) = c; omega] at this
theorem inF_let {c : Nat} (h0 : 97 ≤ c) (h1 : c ≤ 122) : inF c = false := by
  have h : ∀ n : Fin 26, inF (97 + n.val) = false := by decide +kernel
  have := h ⟨c - 97, by omega⟩
  rwa [show 97 + (⟨c - 97, by omega⟩ : Fin 26).val = c from by show 97 + (c - 97) = c; omega] at this
theorem inL_let {c : Nat} (h0 : 97 ≤ c) (h1 : c ≤ 122) : inL c = true := by
  have h : ∀ n : Fin 26, inL (97 + n.val) = true := by decide +kernel
  have := h ⟨c - 97, by omega⟩
  rwa [show 97 + (⟨c - 97, by omega⟩ : Fin 26).val = c from by show 97 + (c - 97) = c; omega] at this
theorem IsNm.nmB {y : Str} (h : IsNm y) : nmB y = true := by
  unfold Mine.nmB
  rw [decide_eq_true h.lo, decide_eq_true h.hi, List.all_eq_true.mpr fun c hc => inL_let (h.ok c hc).1 (h.ok c hc).2]
  rfl
noncomputable def numB (z : Str) : Bool := decide (1 ≤ z.length) && decide (z.length ≤ 20) && !(decide (z.cps.toList.head? = some 48) && !decide (z = zero)) && z.cps.toList.all inF
theorem numB_let {z : Str} {c : Nat} (hc : c ∈ z.cps.toList) (h0 : 97 ≤ c) (h1 : c ≤ 122) : numB z = false := by
  have : z.cps.toList.all inF = false := List.all_eq_false.mpr ⟨c, hc, by rw [inF_let h0 h1]; decide⟩
  unfold numB
  rw [this, Bool.and_false]
noncomputable def numS (m : Nat) : Str := Str.ofString (toString ((m : Nat) : Int))
theorem numS_codes (m : Nat) : (numS m).cps.toList = (Nat.toDigits 10 m).map Char.toNat := PySem.W.KIN.signs_num m
theorem digit_range {m : Nat} {c : Nat} (h : c ∈ (numS m).cps.toList) : 48 ≤ c ∧ c ≤ 57 := by
  rw [numS_codes] at h
  obtain ⟨d, hd, rfl⟩ := List.mem_map.mp h
  have := Nat.isDigit_of_mem_toDigits (by decide) (by decide) hd
  unfold Char.isDigit at this
  simp only [Bool.and_eq_true, decide_eq_true_eq] at this
  exact ⟨this.1, this.2⟩
theorem digits_head : ∀ m : Nat, (Nat.toDigits 10 m).head? = some '0' → m = 0 := by
  intro m
  induction m using Nat.strongRecOn with
  | _ m ih =>
    intro h
    by_cases hm : m < 10
    · rw [Nat.toDigits_of_lt_base hm] at h
      have h' : Nat.digitChar m = '0' := by simpa using h
      have : ∀ n : Fin 10, Nat.digitChar n.val = '0' → n.val = 0 := by decide
      exact this ⟨m, hm⟩ h'
    · have hd : m % 10 < 10 := Nat.mod_lt m (by decide)
      have t : Nat.toDigits 10 (m / 10) ++ Nat.toDigits 10 (m % 10) = Nat.toDigits 10 (10 * (m / 10) + m % 10) := Nat.toDigits_append_toDigits (by decide) (by omega) hd
      rw [Nat.div_add_mod] at t
      rw [← t] at h
      have hne : Nat.toDigits 10 (m / 10) ≠ [] := Nat.toDigits_ne_nil
      cases e : Nat.toDigits 10 (m / 10) with
      | nil => exact absurd e hne
      | cons a r =>
        rw [e] at h
        have := ih (m / 10) (by omega) (by rw [e]; simpa using h)
        omega
theorem char_toNat_inj {a b : Char} (h : a.toNat = b.toNat) : a = b := by
  apply Char.ext
  exact UInt32.toNat_inj.mp h
theorem numS_zero : numS 0 = zero := by decide +kernel
theorem numS_ok {m : Nat} (h : m < 10 ^ 20) : numB (numS m) = true ∧ (numS m).length ≤ 20 ∧ 1 ≤ (numS m).length ∧ intText? (numS m) = some ((m : Nat) : Int) := by
  have hl : (numS m).length = (Nat.toDigits 10 m).length := by rw [strLen, numS_codes, List.length_map]
  have h1 : 1 ≤ (numS m).length := by rw [hl]; exact Nat.length_toDigits_pos
  have h2 : (numS m).length ≤ 20 := by rw [hl]; exact (Nat.length_toDigits_le_iff (by decide) (by decide)).mpr h
  refine ⟨?_, h2, h1, ?_⟩
  · unfold numB
    rw [decide_eq_true h1, decide_eq_true h2, List.all_eq_true.mpr fun c hc => inF_dig (digit_range hc).1 (digit_range hc).2]
    by_cases hd : (numS m).cps.toList.head? = some 48
    · have hm : m = 0 := by
        rw [numS_codes, List.head?_map] at hd
        cases e : (Nat.toDigits 10 m).head? with
        | none => rw [e] at hd; cases hd
        | some d =>
          rw [e] at hd
          have : d = '0' := char_toNat_inj (by simpa using hd)
          rw [this] at e
          exact digits_head m e
      subst hm
      rw [numS_zero, decide_eq_true (rfl : zero = zero)]
      decide +kernel
    · rw [decide_eq_false hd]; rfl
  · rw [intText_digits (fun c hc => digit_range hc) (fun z => by rw [strLen, z] at h1; simp at h1) (by omega), numS_codes, PySem.W.KIN.val_back]
theorem inter_mem {c d : Nat} : ∀ {ys : List (List Nat)}, d ∈ inter c ys → d = c ∨ ∃ y ∈ ys, d ∈ y
  | [], h => by simp [inter] at h
  | [x], h => .inr ⟨x, by simp, h⟩
  | x :: z :: r, h => by
    have h' : d ∈ x ++ c :: inter c (z :: r) := h
    rcases List.mem_append.mp h' with h' | h'
    · exact .inr ⟨x, by simp, h'⟩
    · rcases List.mem_cons.mp h' with h' | h'
      · exact .inl h'
      · rcases inter_mem h' with h'' | ⟨y, hy, h''⟩
        · exact .inl h''
        · exact .inr ⟨y, List.mem_cons_of_mem _ hy, h''⟩
theorem dotted_codes {ys : List Str} (h : ∀ y ∈ ys, IsNm y) {c : Nat} (hc : c ∈ (dotted ys).cps.toList) : c = 46 ∨ (97 ≤ c ∧ c ≤ 122) := by
  rw [dotted_join, join_codes] at hc
  rcases inter_mem hc with e | ⟨y, hy, e⟩
  · exact .inl e
  · obtain ⟨z, hz, rfl⟩ := List.mem_map.mp hy
    exact .inr ((h z hz).ok c e)
theorem dotted_letter {ys : List Str} (h0 : ys ≠ []) (h : ∀ y ∈ ys, IsNm y) : ∃ c ∈ (dotted ys).cps.toList, 97 ≤ c ∧ c ≤ 122 := by
  cases ys with
  | nil => exact absurd rfl h0
  | cons y r =>
    have hy := h y List.mem_cons_self
    cases e : y.cps.toList with
    | nil => have := hy.lo; rw [strLen, e] at this; simp at this
    | cons c q =>
      have hc : c ∈ y.cps.toList := by rw [e]; simp
      refine ⟨c, ?_, hy.ok c hc⟩
      rw [dotted_join, join_codes]
      obtain ⟨R, e1, _⟩ := inter_tail 46 y.cps.toList (r.map (·.cps.toList))
      rw [List.map_cons, e1]
      exact List.mem_append_left _ hc
noncomputable def brk : Str := "()"
theorem brk_codes : brk.cps.toList = [40, 41] := by decide +kernel
theorem ends_tail {z : Str} (h : Txt.endswith z brk = true) : ∃ pre, z.cps.toList = pre ++ [40, 41] := by
  unfold Txt.endswith at h
  have lb : brk.length = 2 := by decide +kernel
  rw [lb, Bool.and_eq_true, decide_eq_true_eq] at h
  obtain ⟨h1, h2⟩ := h
  unfold subAt at h2
  rw [lb] at h2
  have h3 : z.cps.extract (z.length - 2) (z.length - 2 + 2) = brk.cps := by simpa using h2
  have h4 := congrArg Array.toList h3
  rw [Array.toList_extract, List.extract_eq_take_drop, brk_codes] at h4
  refine ⟨z.cps.toList.take (z.length - 2), ?_⟩
  have h5 : z.cps.toList.drop (z.length - 2) = [40, 41] := by
    rw [← h4, List.take_of_length_le]
    rw [List.length_drop, ← strLen]; omega
  rw [← h5, List.take_append_drop]
theorem ends_path {ys : List Str} (h : ∀ y ∈ ys, IsNm y) : Txt.endswith (dotted ys) brk = false := by
  cases e : Txt.endswith (dotted ys) brk with
  | false => rfl
  | true =>
    obtain ⟨pre, hp⟩ := ends_tail e
    have : 41 ∈ (dotted ys).cps.toList := by rw [hp]; simp
    have := dotted_codes h this
    omega
theorem ends_call (a : Str) : Txt.endswith (a ++ brk) brk = true := by
  unfold Txt.endswith subAt
  have lb : brk.length = 2 := by decide +kernel
  rw [appLen, lb, Bool.and_eq_true, decide_eq_true_eq]
  refine ⟨by omega, ?_⟩
  rw [beq_iff_eq]
  apply Array.toList_inj.mp
  rw [Array.toList_extract, List.extract_eq_take_drop, strApp, brk_codes, show a.length + 2 - 2 = a.length from by omega, strLen, List.drop_left]
  simp
theorem cut_call (a : Str) (h : a.length ≤ 1000000) : Txt.slice (a ++ brk) none (some (-2)) = a := by
  apply strExt
  have lb : brk.length = 2 := by decide +kernel
  have hl : (a ++ brk).length = a.length + 2 := by rw [appLen, lb]
  have := slice_closes_to_neg (x := a ++ brk) (j := -2) (k := (a.length : Int)) (by decide) (by rw [hl]; omega) (by rw [hl]; omega)
  have e := eq_of_beq this
  rw [e]
  simp [strApp, strLen]
end Mine

set_option maxHeartbeats 4000000
namespace L2
open PySem PySem.Spec PyProof.Rows
inductive DEq (K : PySem.W.Frag) (H : Hp) : Nat → V → V → Prop where
  | non {n : Nat} : DEq K H n .non .non
  | bl {n : Nat} (b : Bool) : DEq K H n (.bl b) (.bl b)
  | int {n : Nat} (i : Int) : DEq K H n (.int i) (.int i)
  | str {n : Nat} (x : Str) : DEq K H n (.str x) (.str x)
  | same {n : Nat} (a : Addr) : DEq K H n (.ref a) (.ref a)
  | tup {n : Nat} {a b : Addr} {xs ys : List V} (ha : SqT K H a xs) (hb : SqT K H b ys) (hl : xs.length = ys.length) (h : ∀ (i : Nat) x y, xs[i]? = some x → ys[i]? = some y → DEq K H n x y) : DEq K H (n + 1) (.ref a) (.ref b)
  | lst {n : Nat} {a b : Addr} {xs ys : List V} (ha : SqL K H a xs) (hb : SqL K H b ys) (hl : xs.length = ys.length) (h : ∀ (i : Nat) x y, xs[i]? = some x → ys[i]? = some y → DEq K H n x y) : DEq K H (n + 1) (.ref a) (.ref b)
section
variable {X : Cx} {pins : List (Addr × Obj)} {σ : St} {H : Hp} {s : Shared}
theorem Vals.at {xs : List V} {us : List Value} (r : Vals xs us) {j : Nat} (h : j < us.length) : ∃ x, xs[j]? = some x ∧ RelV x us[j] := by
  have hl := r.length
  have hx : xs[j]? = some xs[j] := List.getElem?_eq_getElem (by omega)
  obtain ⟨u, hu, ru⟩ := r.get hx
  rw [List.getElem?_eq_getElem h] at hu
  cases hu
  exact ⟨_, hx, ru⟩
theorem all_true (n : Nat) : (List.range n).all (fun _ => true) = true := by simp
theorem DEq.at (I : Inv X pins σ H s) {n : Nat} {x y : V} (d : DEq X.K H n x y) : ∀ {A : Around} {u v : Value}, A.units + n < cLine → RelV x u → RelV y v → SeqAt.EqAt A s u v true := by
  induction d with
  | non => intro A u v hu ru rv; cases ru; cases rv; exact SeqAt.EqAt.same _
  | bl b => intro A u v hu ru rv; cases ru; cases rv; exact SeqAt.EqAt.same _
  | int i =>
    intro A u v hu ru rv
    obtain ⟨t, rfl⟩ := ru
    obtain ⟨t', rfl⟩ := rv
    have := SeqAt.EqAt.int_int (A := A) (s := s) i t i t'
    rwa [beq_self_eq_true] at this
  | str x =>
    intro A u v hu ru rv
    obtain ⟨t, rfl⟩ := ru
    obtain ⟨t', rfl⟩ := rv
    have := SeqAt.EqAt.str_str (A := A) (s := s) x t x t'
    rwa [beq_self_eq_true] at this
  | same a => intro A u v hu ru rv; cases ru; cases rv; exact SeqAt.EqAt.same _
  | @tup n a b xs ys ha hb hl h ih =>
    intro A u v hu ru rv
    cases ru; cases rv
    by_cases hab : a = b
    · subst hab; exact SeqAt.EqAt.same _
    · obtain ⟨us, r1, p1, _⟩ := I.tuple ha
      obtain ⟨ws, r2, p2, _⟩ := I.tuple hb
      have l1 := r1.length
      have l2 := r2.length
      have := SeqAt.RcAt.tuples (A := A) (s := s) (e := fun _ => true) (show s.heap.IsTuple a us.toArray from p1) (show s.heap.IsTuple b ws.toArray from p2) (by omega) fun j h1 h2 => by
        have h1' : j < us.length := by simpa using h1
        have h2' : j < ws.length := by simpa using h2
        obtain ⟨x, ex, rx⟩ := r1.at h1'
        obtain ⟨y, ey, ry⟩ := r2.at h2'
        exact ih j x y ex ey (A := A.in1) (show A.units + 1 + n < cLine by omega) (by simpa using rx) (by simpa using ry)
      rw [all_true, show (us.toArray.size == ws.toArray.size) = true from by simp; omega] at this
      exact SeqAt.EqAt.of_refs hab this
  | @lst n a b xs ys ha hb hl h ih =>
    intro A u v hu ru rv
    cases ru; cases rv
    by_cases hab : a = b
    · subst hab; exact SeqAt.EqAt.same _
    · obtain ⟨us, r1, p1, _⟩ := I.list ha
      obtain ⟨ws, r2, p2, _⟩ := I.list hb
      have l1 := r1.length
      have l2 := r2.length
      have := SeqAt.RcAt.lists (A := A) (s := s) (e := fun _ => true) p1.isList p2.isList (by simp; omega) (by omega) fun j h1 h2 => by
        have h1' : j < us.length := by simpa using h1
        have h2' : j < ws.length := by simpa using h2
        obtain ⟨x, ex, rx⟩ := r1.at h1'
        obtain ⟨y, ey, ry⟩ := r2.at h2'
        exact ih j x y ex ey (A := A.in1) (show A.units + 1 + n < cLine by omega) (by simpa using rx) (by simpa using ry)
      rw [all_true] at this
      exact SeqAt.EqAt.of_refs hab this
noncomputable def DSq (K : PySem.W.Frag) (H : Hp) (a b : Addr) : Prop := ∃ (n : Nat) (xs ys : List V), n ≤ 60 ∧ xs.length = ys.length ∧ ((SqT K H a xs ∧ SqT K H b ys) ∨ (SqL K H a xs ∧ SqL K H b ys)) ∧ ∀ (i : Nat) x y, xs[i]? = some x → ys[i]? = some y → DEq K H n x y
noncomputable def rEqD (K : PySem.W.Frag) (r : Bool) : R2 := fun x y H Q => ∃ a b, x = .ref a ∧ y = .ref b ∧ DSq K H a b ∧ Q (.bl r) H
theorem op_eqD {K : PySem.W.Frag} (hK : X.K = K) (hu : X.A.units + 64 < cLine) : OpR X (compareOp .Eq) (rEqD K true) := by
  subst hK
  intro pins s σ H x y v u Q I rx ry h
  obtain ⟨a, b, rfl, rfl, ⟨n, xs, ys, hn, hl, hs, hd⟩, q⟩ := h
  cases rx; cases ry
  have fin : EP X pins σ Q (.bool true) s := ⟨.bl true, H, I, rfl, q⟩
  rcases hs with ⟨ha, hb⟩ | ⟨ha, hb⟩
  · obtain ⟨us, r1, p1, _⟩ := I.tuple ha
    obtain ⟨ws, r2, p2, _⟩ := I.tuple hb
    have l1 := r1.length
    have l2 := r2.length
    refine SeqAt.eq_tupleAt (e := fun _ => true) (show s.heap.IsTuple a us.toArray from p1) (show s.heap.IsTuple b ws.toArray from p2) (by omega) (fun j h1 h2 => ?_) ?_
    · have h1' : j < us.length := by simpa using h1
      have h2' : j < ws.length := by simpa using h2
      obtain ⟨x, ex, rx⟩ := r1.at h1'
      obtain ⟨y, ey, ry⟩ := r2.at h2'
      exact DEq.at I (hd j x y ex ey) (A := X.A.in1) (show X.A.units + 1 + n < cLine by omega) (by simpa using rx) (by simpa using ry)
    · rw [all_true, show (us.toArray.size == ws.toArray.size) = true from by simp; omega]
      exact fin
  · obtain ⟨us, r1, p1, _⟩ := I.list ha
    obtain ⟨ws, r2, p2, _⟩ := I.list hb
    have l1 := r1.length
    have l2 := r2.length
    refine SeqAt.eq_listAt (e := fun _ => true) p1.isList p2.isList (by simp; omega) (by omega) (fun j h1 h2 => ?_) ?_
    · have h1' : j < us.length := by simpa using h1
      have h2' : j < ws.length := by simpa using h2
      obtain ⟨x, ex, rx⟩ := r1.at h1'
      obtain ⟨y, ey, ry⟩ := r2.at h2'
      exact DEq.at I (hd j x y ex ey) (A := X.A.in1) (show X.A.units + 1 + n < cLine by omega) (by simpa using rx) (by simpa using ry)
    · rw [all_true]
      exact fin
theorem op_neD {K : PySem.W.Frag} (hK : X.K = K) (hu : X.A.units + 64 < cLine) : OpR X (compareOp .NotEq) (rEqD K false) := by
  subst hK
  intro pins s σ H x y v u Q I rx ry h
  obtain ⟨a, b, rfl, rfl, ⟨n, xs, ys, hn, hl, hs, hd⟩, q⟩ := h
  cases rx; cases ry
  have fin : EP X pins σ Q (.bool false) s := ⟨.bl false, H, I, rfl, q⟩
  rcases hs with ⟨ha, hb⟩ | ⟨ha, hb⟩
  · obtain ⟨us, r1, p1, _⟩ := I.tuple ha
    obtain ⟨ws, r2, p2, _⟩ := I.tuple hb
    have l1 := r1.length
    have l2 := r2.length
    have := SeqAt.RcNeAt.tuples (A := X.A) (s := s) (e := fun _ => true) (show s.heap.IsTuple a us.toArray from p1) (show s.heap.IsTuple b ws.toArray from p2) (by omega) fun j h1 h2 => by
      have h1' : j < us.length := by simpa using h1
      have h2' : j < ws.length := by simpa using h2
      obtain ⟨x, ex, rx⟩ := r1.at h1'
      obtain ⟨y, ey, ry⟩ := r2.at h2'
      exact DEq.at I (hd j x y ex ey) (A := X.A.in1) (show X.A.units + 1 + n < cLine by omega) (by simpa using rx) (by simpa using ry)
    rw [all_true, show (us.toArray.size == ws.toArray.size) = true from by simp; omega] at this
    exact this X.prog X.w X.xe _ fin
  · obtain ⟨us, r1, p1, _⟩ := I.list ha
    obtain ⟨ws, r2, p2, _⟩ := I.list hb
    have l1 := r1.length
    have l2 := r2.length
    have := SeqAt.RcNeAt.lists (A := X.A) (s := s) (e := fun _ => true) p1.isList p2.isList (by simp; omega) (by omega) fun j h1 h2 => by
      have h1' : j < us.length := by simpa using h1
      have h2' : j < ws.length := by simpa using h2
      obtain ⟨x, ex, rx⟩ := r1.at h1'
      obtain ⟨y, ey, ry⟩ := r2.at h2'
      exact DEq.at I (hd j x y ex ey) (A := X.A.in1) (show X.A.units + 1 + n < cLine by omega) (by simpa using rx) (by simpa using ry)
    rw [all_true] at this
    exact this X.prog X.w X.xe _ fin
end
noncomputable def Itz (K : PySem.W.Frag) (a b : Addr) : It :=
  ⟨fun i H => ∃ xs ys x y, SqL K H a xs ∧ SqL K H b ys ∧ xs[i]? = some x ∧ ys[i]? = some y,
   fun i H v H' => ∃ p x y, v = .ref p ∧ H p = none ∧ (∀ xs, SqL K H a xs → xs[i]? = some x) ∧ (∀ ys, SqL K H b ys → ys[i]? = some y) ∧ H' = upd H p (.tup [x, y]),
   fun i H => ∃ xs ys, SqL K H a xs ∧ SqL K H b ys ∧ (xs.length ≤ i ∨ ys.length ≤ i)⟩
theorem turn_zip {P : Program} {w : World} {K : PySem.W.Frag} {elts : List Expr} {x1 : Nat} {tpos : Pos} (a b z TI TO i1 i2 : Addr) (D : ZipApart z TI TO i1 i2 a b) :
    Turn P w K (.Tuple elts x1 tpos) (Itz K a b) [z, TI, TO, i1, i2] z (fun i h => IsZip h z TI TO .none ∧ IsPair h TI (.ref i1) (.ref i2) ∧ (∃ u v, IsPair h TO u v) ∧ h.IsListIter i1 a i ∧ h.IsListIter i2 b i) where
  mem := by simp
  obj := fun i h st c hc => by
    obtain ⟨hz, hTI, ⟨u, v, hTO⟩, h1, h2⟩ := st
    simp only [List.mem_cons, List.not_mem_nil, or_false] at hc
    rcases hc with rfl | rfl | rfl | rfl | rfl
    · exact ⟨_, hz, fun v z => by cases z⟩
    · exact ⟨_, hTI, fun v z => by cases z⟩
    · exact ⟨_, hTO, fun v z => by cases z⟩
    · obtain ⟨o, e, _, d⟩ := h1; exact ⟨o, e, fun v z => by rw [d] at z; cases z⟩
    · obtain ⟨o, e, _, d⟩ := h2; exact ⟨o, e, fun v z => by rw [d] at z; cases z⟩
  keep := fun i h h' st k => by
    obtain ⟨hz, hTI, ⟨u, v, hTO⟩, h1, h2⟩ := st
    exact ⟨k z (by simp) _ hz, k TI (by simp) _ hTI, ⟨u, v, k TO (by simp) _ hTO⟩, h1.at fun o e => k i1 (by simp) o e, h2.at fun o e => k i2 (by simp) o e⟩
  item := by
    intro X hP hw hK hc i pins s σ H E I hf st hg
    subst hP hw hK
    obtain ⟨xs, ys, x, y, hq, hq2, hx, hy⟩ := hg
    obtain ⟨hz, hTI, ⟨u0, v0, hTO⟩, h1, h2⟩ := st
    obtain ⟨us, rv, p, hsz⟩ := I.list hq
    obtain ⟨ws, rw', p', hsz'⟩ := I.list hq2
    obtain ⟨u, hu, ru⟩ := rv.get hx
    obtain ⟨v, hv, rv2⟩ := rw'.get hy
    have lt : ∀ {c o}, s.heap.get? c = some o → c ≠ s.heap.objs.size := fun e => Nat.ne_of_lt (Heap.lt_size e)
    refine wpAny_pyNext_zip_item D hz hTI hTO h1 h2 p.isList p'.isList (x := u) (y := v) (by simpa using hu) (by simpa using hv) fun h' a1 a2 a3 a4 a5 a6 hk => ?_
    refine ⟨_, rfl, wpAny_letOwnedTupleGo_zip a1 fun h'' hz' hs' => ?_⟩
    have zlt := lt hz
    have tlt := lt hTO
    have hfr : H s.heap.objs.size = none := I.hok.fresh (Nat.le_refl _)
    have hT : IsPair h'' s.heap.objs.size u v := (hs'.2 _ (Ne.symm zlt)).trans a5
    have kk : ∀ c o, c ≠ z → c ≠ TO → c ≠ i1 → c ≠ i2 → s.heap.get? c = some o → h''.get? c = some o := fun c o q1 q2 q3 q4 e => (hs'.2 c q1).trans (hk c o q1 q2 q3 q4 e)
    have fz := hf z (by simp)
    have fTO := hf TO (by simp)
    have f1 := hf i1 (by simp)
    have f2 := hf i2 (by simp)
    have hch : ∀ c, c ∉ [z, TO, i1, i2] → c ≠ z ∧ c ≠ TO ∧ c ≠ i1 ∧ c ≠ i2 := fun c hc => by
      simp only [List.mem_cons, List.not_mem_nil, or_false, not_or] at hc
      exact ⟨hc.1, hc.2.1, hc.2.2.1, hc.2.2.2⟩
    have trk : ∀ c o, H c = some o → c ≠ z ∧ c ≠ TO ∧ c ≠ i1 ∧ c ≠ i2 := fun c o e => ⟨(fun q => by rw [q, fz.1] at e; cases e), (fun q => by rw [q, fTO.1] at e; cases e), (fun q => by rw [q, f1.1] at e; cases e), (fun q => by rw [q, f2.1] at e; cases e)⟩
    have new : upd H s.heap.objs.size (.tup [x, y]) s.heap.objs.size = some (.tup [x, y]) := upd_same
    have I1 : Inv X pins σ (upd H s.heap.objs.size (.tup [x, y])) { s with heap := h'' } := by
      refine I.step (g' := s.gens) (d' := s.drawn) (t' := s.toks) (ch := [z, TO, i1, i2]) (fun c hc => ?_) (fun c o _ _ hc e _ => ?_) (fun c o _ _ hc e _ => ?_) (fun c o hc e n => ?_) (fun c o hc e => ?_) (fun c q e => ?_) (fun c o q e => ?_) (fun c q e => ?_) (fun m hm => ?_) (fun c o e => ?_) I.bare
      · simp only [List.mem_cons, List.not_mem_nil, or_false] at hc
        rcases hc with rfl | rfl | rfl | rfl
        · exact ⟨fz.2.2.2.1, fz.2.1, fz.2.2.2.2.1, fz.2.2.2.2.2⟩
        · exact ⟨fTO.2.2.2.1, fTO.2.1, fTO.2.2.2.2.1, fTO.2.2.2.2.2⟩
        · exact ⟨f1.2.2.2.1, f1.2.1, f1.2.2.2.2.1, f1.2.2.2.2.2⟩
        · exact ⟨f2.2.2.2.1, f2.2.1, f2.2.2.2.2.1, f2.2.2.2.2.2⟩
      · obtain ⟨q1, q2, q3, q4⟩ := hch c hc
        exact kk c o q1 q2 q3 q4 e
      · obtain ⟨q1, q2, q3, q4⟩ := hch c hc
        exact ⟨o.slots, kk c o q1 q2 q3 q4 e⟩
      · rw [upd_ne (lt e)]; exact n
      · obtain ⟨q1, q2, q3, q4⟩ := hch c hc
        exact ⟨o, kk c o q1 q2 q3 q4 e⟩
      · rw [upd_ne (ne_of_none e hfr)]; exact e
      · rw [upd_ne (ne_of_none e hfr)]; exact e
      · exact ⟨#[], by rw [upd_ne (ne_of_none e hfr), e]; simp⟩
      · obtain ⟨o, es, ep, ho, r⟩ := hm
        exact ⟨o, es, ep, kk _ o (Ne.symm fz.2.1) (Ne.symm fTO.2.1) (Ne.symm f1.2.1) (Ne.symm f2.2.1) ho, r⟩
      · by_cases hcT : c = s.heap.objs.size
        · subst hcT
          rw [upd_same] at e
          cases e
          exact ⟨by show 2 ≤ sizeLine; decide, [u, v], .cons ru (.cons rv2 .nil), ⟨_, hT, rfl, _, rfl⟩⟩
        · rw [upd_ne hcT] at e
          obtain ⟨q1, q2, q3, q4⟩ := trk c o e
          refine (I.hok c o e).stay (fun d w' hd q => ?_) (fun d q => ?_) fun d w' q => ?_
          · have : d ≠ z ∧ d ≠ TO ∧ d ≠ i1 ∧ d ≠ i2 := by
              rcases hd with rfl | hd
              · exact ⟨q1, q2, q3, q4⟩
              · exact trk d _ hd
            exact kk d w' this.1 this.2.1 this.2.2.1 this.2.2.2 q
          · rw [upd_ne (ne_of_none q hfr)]; exact q
          · rw [upd_ne (ne_of_none q hfr)]; exact q
    refine ⟨.ref s.heap.objs.size, _, I1, rfl, ⟨s.heap.objs.size, x, y, rfl, hfr, fun zs hq' => by rw [I.list_inj hq' hq]; exact hx, fun zs hq' => by rw [I.list_inj hq' hq2]; exact hy, rfl⟩, ?_, fun c hc => ?_⟩
    · exact ⟨hz', kk TI _ D.TIz D.TITO D.TIi1 D.TIi2 hTI, ⟨u, v, (hs'.2 TO D.TOz).trans a2⟩, a3.at fun o e => (hs'.2 i1 D.i1z).trans e, a4.at fun o e => (hs'.2 i2 D.i2z).trans e⟩
    · have hc0 := (hf c hc).1
      have hne : c ≠ s.heap.objs.size := by
        simp only [List.mem_cons, List.not_mem_nil, or_false] at hc
        rcases hc with rfl | rfl | rfl | rfl | rfl
        · exact lt hz
        · exact lt hTI
        · exact lt hTO
        · obtain ⟨_, e, _⟩ := h1; exact lt e
        · obtain ⟨_, e, _⟩ := h2; exact lt e
      rw [upd_ne hne]; exact hc0
  done := by
    intro X hP hw hK hc i pins s σ H E I hf st hg
    subst hP hw hK
    obtain ⟨xs, ys, hq, hq2, hend⟩ := hg
    obtain ⟨hz, hTI, ⟨u0, v0, hTO⟩, h1, h2⟩ := st
    obtain ⟨us, rv, p, hsz⟩ := I.list hq
    obtain ⟨ws, rw', p', hsz'⟩ := I.list hq2
    have l1 := rv.length
    have l2 := rw'.length
    refine wpAny_pyNext_zip_end (I.ok.hd hc) D hz hTI hTO h1 h2 p.isList p'.isList (by rcases hend with q | q; exact .inl (by simp; omega); exact .inr (by simp; omega)) fun h' hk => ⟨rfl, ?_⟩
    have fz := hf z (by simp)
    have fTO := hf TO (by simp)
    have f1 := hf i1 (by simp)
    have f2 := hf i2 (by simp)
    have hch : ∀ c, c ∉ [z, TO, i1, i2] → c ≠ z ∧ c ≠ TO ∧ c ≠ i1 ∧ c ≠ i2 := fun c hc => by
      simp only [List.mem_cons, List.not_mem_nil, or_false, not_or] at hc
      exact ⟨hc.1, hc.2.1, hc.2.2.1, hc.2.2.2⟩
    have trk : ∀ c o, H c = some o → c ≠ z ∧ c ≠ TO ∧ c ≠ i1 ∧ c ≠ i2 := fun c o e => ⟨(fun q => by rw [q, fz.1] at e; cases e), (fun q => by rw [q, fTO.1] at e; cases e), (fun q => by rw [q, f1.1] at e; cases e), (fun q => by rw [q, f2.1] at e; cases e)⟩
    refine I.step (H' := H) (g' := s.gens) (d' := s.drawn) (t' := s.toks) (ch := [z, TO, i1, i2]) (fun c hc => ?_) (fun c o _ _ hc e _ => ?_) (fun c o _ _ hc e _ => ?_) (fun c o hc e n => n) (fun c o hc e => ?_) (fun c q e => e) (fun c o q e => e) (fun c q e => ⟨#[], by rw [e]; simp⟩) (fun m hm => ?_) (fun c o e => ?_) I.bare
    · simp only [List.mem_cons, List.not_mem_nil, or_false] at hc
      rcases hc with rfl | rfl | rfl | rfl
      · exact ⟨fz.2.2.2.1, fz.2.1, fz.2.2.2.2.1, fz.2.2.2.2.2⟩
      · exact ⟨fTO.2.2.2.1, fTO.2.1, fTO.2.2.2.2.1, fTO.2.2.2.2.2⟩
      · exact ⟨f1.2.2.2.1, f1.2.1, f1.2.2.2.2.1, f1.2.2.2.2.2⟩
      · exact ⟨f2.2.2.2.1, f2.2.1, f2.2.2.2.2.1, f2.2.2.2.2.2⟩
    · obtain ⟨q1, q2, q3, q4⟩ := hch c hc
      exact hk c o q1 q2 q3 q4 e
    · obtain ⟨q1, q2, q3, q4⟩ := hch c hc
      exact ⟨o.slots, hk c o q1 q2 q3 q4 e⟩
    · obtain ⟨q1, q2, q3, q4⟩ := hch c hc
      exact ⟨o, hk c o q1 q2 q3 q4 e⟩
    · obtain ⟨o, es, ep, ho, r⟩ := hm
      exact ⟨o, es, ep, hk _ o (Ne.symm fz.2.1) (Ne.symm fTO.2.1) (Ne.symm f1.2.1) (Ne.symm f2.2.1) ho, r⟩
    · obtain ⟨q1, q2, q3, q4⟩ := trk c o e
      refine (I.hok c o e).stay (fun d w' hd q => ?_) (fun d q => q) fun d w' q => q
      have : d ≠ z ∧ d ≠ TO ∧ d ≠ i1 ∧ d ≠ i2 := by
        rcases hd with rfl | hd
        · exact ⟨q1, q2, q3, q4⟩
        · exact trk d _ hd
      exact hk d w' this.1 this.2.1 this.2.2.1 this.2.2.2 q
  self := fun A i s Q E st h => wpAny_pyIter_zip st.1 h
section
variable {X : Cx} {K : PySem.W.Frag}
noncomputable def iZip (K : PySem.W.Frag) (ta : TA) : TI := fun σ H R => ta σ H fun vs H1 => ∃ a b, vs = [.ref a, .ref b] ∧ (∃ xs, SqL K H1 a xs) ∧ (∃ ys, SqL K H1 b ys) ∧ R (Itz K a b) H1
theorem pi_zip2 {a b : Expr} {ta : TA} {p pos : Pos} {elts : List Expr} {x1 : Nat} {tpos : Pos} (hg : Gl X "zip") (hm : X.mg "zip" = none) (ha : PA X [a, b] ta) (hs : starEach [a, b] X.env = [(false, eval a X.env), (false, eval b X.env)] := by rfl) (hs2 : starEach [b] X.env = [(false, eval b X.env)] := by rfl) :
    PI X (.Tuple elts x1 tpos) (.Call (.Name "zip" p) [a, b] [] pos) (iZip X.K ta) := by
  intro pins s σ H R I h
  refine Call_ (ld_blt I hg hm boot_zip (PyProof.Rows.callWith_type1 (thn (ha pos pins s σ H _ I h) fun us s1 ⟨vs, H1, I1, r1, q1⟩ => ?_) (by rw [hs, hs2]) (by rw [hs2]; rfl)))
  obtain ⟨a1, b1, e, ⟨xs, hx⟩, ⟨ys, hy⟩, q⟩ := q1
  subst e
  obtain ⟨u, u2, rfl, rx, ry⟩ := vals2 r1
  cases rx; cases ry
  obtain ⟨vs1, _, p1, _⟩ := I1.list hx
  obtain ⟨vs2, _, p2, _⟩ := I1.list hy
  have lt1 : a1 < s1.heap.objs.size := by obtain ⟨o, e, _⟩ := p1.isList; exact Heap.lt_size e
  have lt2 : b1 < s1.heap.objs.size := by obtain ⟨o, e, _⟩ := p2.isList; exact Heap.lt_size e
  refine call_zip_2 p1.isList p2.isList fun h' z1 z2 z3 z4 z5 z6 zk => ?_
  refine wpAny_pyIter_zip z1 ?_
  have I2 : Inv X pins σ H1 { s1 with heap := h' } := I1.kept (t' := s1.toks) zk
  refine ⟨_, [s1.heap.objs.size + 4, s1.heap.objs.size + 2, s1.heap.objs.size + 3, s1.heap.objs.size, s1.heap.objs.size + 1], _, _, H1, rfl, I2, turn_zip a1 b1 _ _ _ _ _ (zipApart_new lt1 lt2), ⟨z1, z2, ⟨_, _, z3⟩, z4, z5⟩, fun c hc => ?_, q⟩
  have hle : s1.heap.objs.size ≤ c := by
    simp only [List.mem_cons, List.not_mem_nil, or_false] at hc
    rcases hc with h | h | h | h | h <;> rw [h] <;> omega
  exact I1.fpOk hle (I1.hok.fresh hle)
theorem pi_zip2K {a b : Expr} {ta : TA} {p pos : Pos} {elts : List Expr} {x1 : Nat} {tpos : Pos} (h : X.K = K) (hg : Gl X "zip") (hm : X.mg "zip" = none) (ha : PA X [a, b] ta) (hs : starEach [a, b] X.env = [(false, eval a X.env), (false, eval b X.env)] := by rfl) (hs2 : starEach [b] X.env = [(false, eval b X.env)] := by rfl) :
    PI X (.Tuple elts x1 tpos) (.Call (.Name "zip" p) [a, b] [] pos) (iZip K ta) := by subst h; exact pi_zip2 hg hm ha hs hs2
theorem pg_tupK {es : List Expr} {k : Nat} {t : TGs} {n : Nat} {pos : Pos} (hK : X.K = K) (hc : X.calm = true) (h : PGs X es t)
    (hn : (assignEach es X.env).length = n := by rfl) (hst : (assignEach es X.env).findIdx? (·.1) = none := by rfl) : PG X (.Tuple es k pos) (gTup K n t) := by subst hK; exact pg_tup hc h hn hst
end
theorem comp_zip {K : PySem.W.Frag} {a b : Addr} {xs ys : List V} {te : TE} {τ0 : St} {H : Hp} {Fin : List V → Hp → Prop} (f : Nat → V) (hn : xs.length ≤ sizeLine) (hl : xs.length = ys.length) (ha : SqL K H a xs) (hb : SqL K H b ys)
    (hte : ∀ (i : Nat) x y H' Q, xs[i]? = some x → ys[i]? = some y → Same H H' → (∀ H'', Same H' H'' → Q (f i) H'') → te ((τ0.set 0 (some x)).set 1 (some y)) H' Q)
    (hfin : ∀ H', Same H H' → Fin ((List.range xs.length).map f) H') : CompW (gTup K 2 (gCons (gName 0) (gCons (gName 1) gNil))) tYes te (Itz K a b) τ0 H Fin := by
  refine ⟨fun i m τ zs H' => m = xs.length - i ∧ i ≤ xs.length ∧ zs = (List.range i).map f ∧ Same H H' ∧ ∃ u v, τ = (τ0.set 0 u).set 1 v ∨ τ = τ0, ⟨xs.length, rfl, Nat.zero_le _, rfl, Same.refl _, none, none, .inr rfl⟩, ?_⟩
  rintro i m τ zs H' ⟨rfl, hi, rfl, sm, u, v, hτ⟩
  by_cases hlt : i < xs.length
  · have hx : xs[i]? = some xs[i] := by simp [hlt]
    have hy : ys[i]? = some (ys[i]'(by omega)) := by simp [show i < ys.length by omega]
    refine .inr ⟨⟨xs, ys, _, _, sm.seq ha, sm.seq hb, hx, hy⟩, fun x H'' y => ?_⟩
    obtain ⟨p, x1, y1, rfl, hp, e1, e2, rfl⟩ := y
    have e3 : x1 = xs[i] := by have := e1 xs (sm.seq ha); rw [hx] at this; exact (Option.some.inj this).symm
    have e4 : y1 = ys[i]'(by omega) := by have := e2 ys (sm.seq hb); rw [hy] at this; exact (Option.some.inj this).symm
    subst e3; subst e4
    have sm2 : Same H' (upd H' p (.tup [xs[i], ys[i]'(by omega)])) := Same.new hp
    refine ⟨p, _, rfl, SqT.of upd_same, rfl, _, _, rfl, _, _, rfl, rfl, ?_⟩
    have e5 : (τ.set 0 (some xs[i])).set 1 (some (ys[i]'(by omega))) = (τ0.set 0 (some xs[i])).set 1 (some (ys[i]'(by omega))) := by
      rcases hτ with rfl | rfl
      · rw [List.set_comm (l := List.set τ0 0 u) _ _ (show (1 : Nat) ≠ 0 by decide), List.set_set, List.set_set]
      · rfl
    unfold tYes
    rw [e5]
    dsimp only
    rw [if_pos rfl]
    refine hte i _ _ _ _ hx hy (sm.trans sm2) fun H4 s4 => ?_
    refine ⟨by rw [List.length_map, List.length_range]; omega, xs.length - (i + 1), by omega, rfl, hlt, by rw [List.range_succ, List.map_append]; rfl, sm.trans (sm2.trans s4), _, _, .inl rfl⟩
  · have e : i = xs.length := by omega
    subst e
    exact .inl ⟨⟨xs, ys, sm.seq ha, sm.seq hb, .inl (Nat.le_refl _)⟩, hfin H' sm⟩
end L2

set_option maxHeartbeats 4000000
namespace L2
open PySem PySem.Spec PyProof.Rows
noncomputable def Itrs (lo st : Int) (n : Nat) : It := ⟨fun i _ => i < n, fun i H x H' => H' = H ∧ x = .int (lo + (i : Nat) * st), fun i _ => n ≤ i⟩
theorem turn_rangeS {P : Program} {w : World} {K : PySem.W.Frag} {tg : Expr} (it : Addr) (lo st : Int) (n : Nat) : Turn P w K tg (Itrs lo st n) [it] it (fun i h => IsRangeIter h it (lo + (i : Nat) * st) ((n : Int) - (i : Nat)) st) where
  mem := by simp
  obj := fun i h s b hb => by
    have e : b = it := by simpa using hb
    subst e
    exact ⟨_, s, fun v z => by
      have z' : Data.fields _ = Data.cell v := z
      cases z'⟩
  keep := fun i h h' s k => k it (by simp) _ s
  item := by
    intro X hP hw hK hc i pins s σ H E I hf stt hg
    subst hP hw hK
    obtain ⟨f0, f1, f2, f3, f4, f5⟩ := hf it (by simp)
    have W := Walks.range (prog := X.prog) (w := X.w) (I.ok.hd hc) it lo st n
    refine W.item i s _ _ hg stt fun v h' tk hv st' kk => ?_
    obtain ⟨t, rfl⟩ := hv
    have I1 : Inv X pins σ H { s with heap := h', toks := tk } := I.turned (fun b o hb e => kk b o (by simpa using hb) e) f0 f1 f3 f4 f5
    exact ⟨_, rfl, go_of (s := { s with heap := h', toks := tk }) (n := "range_iterator") st' rfl rfl (by decide) ⟨.int (lo + (i : Nat) * st), H, I1, ⟨t, rfl⟩, ⟨rfl, rfl⟩, st', fun b hb => (hf b hb).1⟩⟩
  done := by
    intro X hP hw hK hc i pins s σ H E I hf st hg
    subst hP hw hK
    obtain ⟨f0, f1, f2, f3, f4, f5⟩ := hf it (by simp)
    exact wpAny_pyNext_range_end (I.ok.hd hc) st (by have : n ≤ i := hg; omega) fun h' eb => ⟨rfl, I.turned (t' := s.toks) (fun b o hb e => eb b o hb e) f0 f1 f3 f4 f5⟩
  self := fun _ _ _ _ _ st h => wpAny_pyIter_rangeiter st h
section
variable {X : Cx} {K : PySem.W.Frag} {tg : Expr}
noncomputable def iRng3 (ta : TA) : TI := fun σ H R => ta σ H fun vs H1 => ∃ i j c : Int, vs = [.int i, .int j, .int c] ∧ c ≠ 0 ∧ c.natAbs < 1073741824 ∧ Builtin.Range.small i j c = true ∧ 0 ≤ Builtin.Range.rangeSize i j c ∧ R (Itrs i c (Builtin.Range.rangeSize i j c).toNat) H1
theorem pi_range3 {a b c : Expr} {ta : TA} {p pos : Pos} (hg : Gl X "range") (hm : X.mg "range" = none) (ha : PA X [a, b, c] ta) (he : starEach [a, b, c] X.env = (false, eval a X.env) :: starEach [b, c] X.env := by rfl) (hpl : (backTo pos (starEach [b, c] X.env)).any (·.1) = false := by rfl) :
    PI X tg (.Call (.Name "range" p) [a, b, c] [] pos) (iRng3 ta) := by
  intro pins s σ H R I h
  refine Call_ (ld_blt I hg hm boot_range (PyProof.Rows.callWith_type1 (thn (ha pos pins s σ H _ I h) fun us s1 ⟨vs, H1, I1, r1, q1⟩ => ?_) he hpl))
  obtain ⟨i, j, k, e, hk, hk2, hsm, hn, q⟩ := q1
  subst e
  cases r1 with
  | cons r rr =>
    cases rr with
    | cons r' rr =>
      cases rr with
      | cons r'' rr =>
        cases rr
        obtain ⟨t, rfl⟩ := r
        obtain ⟨t', rfl⟩ := r'
        obtain ⟨t'', rfl⟩ := r''
        refine call_range_3 hk ?_ (.inl (PyProof.noPylong_small hk2))
        refine wpAny_pyIter_range (IsRange.new ..) hsm ?_
        have I2 : Inv X pins σ H1 { s1 with heap := s1.heap.push { cls := .type "range", data := .fields #[.int i t, .int j t', .int k t''] }, toks := s1.toks } := I1.kept fun b o e => Heap.get?_push_of_some _ e
        refine ⟨_, [(s1.heap.push { cls := .type "range", data := .fields #[.int i t, .int j t', .int k t''] }).objs.size], _, _, H1, rfl,
          I2.kept (t' := s1.toks) fun b o e => Heap.get?_push_of_some _ e, turn_rangeS _ i k (Builtin.Range.rangeSize i j k).toNat, ?_, fun b hb => ?_, q⟩
        · have e1 : i + ((0 : Nat) : Int) * k = i := by simp
          have e2 : (((Builtin.Range.rangeSize i j k).toNat : Nat) : Int) - ((0 : Nat) : Int) = Builtin.Range.rangeSize i j k := by omega
          show IsRangeIter _ _ (i + ((0 : Nat) : Int) * k) ((((Builtin.Range.rangeSize i j k).toNat : Nat) : Int) - ((0 : Nat) : Int)) k
          rw [e1, e2]
          exact Heap.get?_push_size _ rfl
        · have e : b = (s1.heap.push { cls := .type "range", data := .fields #[.int i t, .int j t', .int k t''] }).objs.size := by simpa using hb
          subst e
          exact I2.fpOk (Nat.le_refl _) (I2.hok.fresh (Nat.le_refl _))
end
theorem for_rangeS {lo st : Int} {n : Nat} {g : TG} {tb : TS} {D : Ends} {σ : St} {H : Hp} (Pv : Nat → St → Hp → Prop) (h0 : Pv 0 σ H)
    (hs : ∀ (i : Nat) σ H, i < n → Pv i σ H → g (.int (lo + (i : Nat) * st)) σ H fun σ2 H2 => tb { D with nx := Pv (i + 1), ct := Pv (i + 1), bk := D.nx } σ2 H2) (hd : ∀ σ H, Pv n σ H → D.nx σ H) :
    ∃ W : Nat → Nat → St → Hp → Prop, (∃ m, W 0 m σ H) ∧ ∀ i m σ H, W i m σ H →
      ((Itrs lo st n).stop i H ∧ D.nx σ H) ∨ ((Itrs lo st n).go i H ∧ ∃ N : St → Hp → Prop, (∀ σ' H', N σ' H' → ∃ m', m' < m ∧ W (i + 1) m' σ' H') ∧ ∀ x H', (Itrs lo st n).yld i H x H' → g x σ H' fun σ2 H2 => tb { D with nx := N, ct := N, bk := D.nx } σ2 H2) := by
  refine ⟨fun i m σ H => m = n - i ∧ i ≤ n ∧ Pv i σ H, ⟨n, by simp, Nat.zero_le _, h0⟩, ?_⟩
  rintro i m σ H ⟨rfl, hi, p⟩
  by_cases hlt : i < n
  · refine .inr ⟨hlt, Pv (i + 1), fun σ' H' p' => ⟨n - (i + 1), by omega, rfl, hlt, p'⟩, fun x H' y => ?_⟩
    obtain ⟨e, y⟩ := y
    subst e y
    exact hs i σ _ hlt p
  · have e : i = n := by omega
    subst e
    exact .inl ⟨Nat.le_refl _, hd σ H p⟩
section
variable {X : Cx} {K : PySem.W.Frag}
theorem call_any (hc : X.calm = true) : CallR X (.builtin "any") (rAll X.K fun bs => bs.any id) := by
  intro pins s σ H xs us Q I r h
  obtain ⟨p, bs, rfl, hq, q⟩ := h
  obtain ⟨u, rfl, rx⟩ := vals1 r
  cases (show u = Value.ref p from rx)
  obtain ⟨its, rv, pl, hz⟩ := I.list hq
  have hlen := rv.length
  rw [List.length_map] at hlen
  have hne : p ≠ s.heap.objs.size := by
    obtain ⟨o, e, _⟩ := pl.isList
    exact Nat.ne_of_lt (Heap.lt_size e)
  refine call_any_walk (wpAny_pyIter_list pl.isList ?_)
  refine ⟨s.heap.objs.size, _, _, _, _, _, fun i => bs.getD i false, rfl, Walks.list (show X.A.in1.handled = none from I.ok.hd hc) s.heap.objs.size p hne its.toArray, ⟨⟨_, Heap.get?_push_size _ rfl, rfl, rfl⟩, ?_⟩, fun i v s' Q' E' hP hQ => ?_, fun h' tk kk => ?_⟩
  · exact pl.isList.at fun o e => Heap.get?_push_of_some _ e
  · have e := bls_at rv (by simpa using hP)
    subst e
    exact wpAny_truthy_bool hQ
  · have e : (List.range its.toArray.size).any (fun i => bs.getD i false) = bs.any id := by rw [List.size_toArray, ← hlen]; exact range_any bs
    rw [e]
    refine ⟨.bl _, H, I.kept fun b o e => ?_, rfl, q⟩
    exact kk b o (fun z => absurd (Heap.lt_size e) (by rw [List.mem_singleton.mp z]; exact Nat.lt_irrefl _)) (Heap.get?_push_of_some _ e)
theorem call_int_str : CallR X (.type "int") (fun xs H Q => ∃ z n, xs = [.str z] ∧ intText? z = some n ∧ z.length ≤ 640 ∧ Q (.int n) H) := by
  intro pins s σ H xs us Q I r h
  obtain ⟨z, n, rfl, hn, hl, q⟩ := h
  obtain ⟨u, rfl, t, rfl⟩ := vals1 r
  exact PySem.W.KIN.call_text hn hl ⟨.int n, H, I.tok _, ⟨_, rfl⟩, q⟩
noncomputable def rEnds : V → List V → Hp → VK → Prop := fun x vs H Q => ∃ z y, x = .str z ∧ vs = [.str y] ∧ Q (.bl (Txt.endswith z y)) H
theorem mt_endswith : MtR X "str.endswith" rEnds := by
  intro pins s σ H x vs v us Q I rx rv h
  obtain ⟨z, y, rfl, rfl, q⟩ := h
  obtain ⟨t, rfl⟩ := rx
  obtain ⟨u, rfl, t2, rfl⟩ := vals1 rv
  exact SC.endswith ⟨.bl _, H, I, rfl, q⟩
theorem op_rep_str : OpR X (binaryOp .Mult) (fun x y H Q => ∃ z n, x = .str z ∧ y = .int n ∧ MulOk z n ∧ Q (.str (Txt.mul z n)) H) := by
  intro pins s σ H x y v u Q I rx ry h
  obtain ⟨z, n, rfl, rfl, hm, q⟩ := h
  obtain ⟨t, rfl⟩ := rx
  obtain ⟨t', rfl⟩ := ry
  exact SB.mul hm fun t' k => ⟨.str _, H, I.tok k, ⟨t', rfl⟩, q⟩
end
theorem comp_listF {K : PySem.W.Frag} {a : Addr} {xs : List V} {tf : TT} {te : TE} {τ0 : St} {H : Hp} {Fin : List V → Hp → Prop} (p : V → Bool) (hn : xs.length ≤ sizeLine) (hl : SqL K H a xs)
    (htf : ∀ x H' (Q : Bool → Hp → Prop), x ∈ xs → Same H H' → (∀ H'', Same H' H'' → Q (p x) H'') → tf (τ0.set 0 (some x)) H' Q)
    (hte : ∀ x H' (Q : VK), x ∈ xs → Same H H' → (∀ H'', Same H' H'' → Q x H'') → te (τ0.set 0 (some x)) H' Q)
    (hfin : ∀ H', Same H H' → Fin (xs.filter p) H') : CompW (gName 0) tf te (Itl K a) τ0 H Fin := by
  refine ⟨fun i m τ ys H' => m = xs.length - i ∧ i ≤ xs.length ∧ ys = (xs.take i).filter p ∧ Same H H' ∧ ∃ v, τ = τ0.set 0 v ∨ τ = τ0, ⟨xs.length, rfl, Nat.zero_le _, rfl, Same.refl _, none, .inr rfl⟩, ?_⟩
  rintro i m τ ys H' ⟨rfl, hi, rfl, sm, v, hτ⟩
  by_cases hlt : i < xs.length
  · refine .inr ⟨⟨xs, xs[i], sm.seq hl, by simp [hlt]⟩, fun x H'' y => ?_⟩
    obtain ⟨e, y⟩ := y
    subst e
    have hx := y xs (sm.seq hl)
    have e2 : τ.set 0 (some x) = τ0.set 0 (some x) := by
      rcases hτ with rfl | rfl
      · rw [List.set_set]
      · rfl
    unfold gName
    rw [e2]
    have e3 : (xs.take (i + 1)).filter p = (xs.take i).filter p ++ (if p x = true then [x] else []) := by
      rw [List.take_add_one, hx, List.filter_append]
      congr 1
      show [x].filter p = _
      rw [List.filter_cons]
      rfl
    refine htf x H'' _ (List.mem_of_getElem? hx) sm fun H4 s4 => ?_
    cases hp : p x with
    | true =>
      rw [if_pos rfl]
      refine hte x H4 _ (List.mem_of_getElem? hx) (sm.trans s4) fun H5 s5 => ?_
      refine ⟨?_, xs.length - (i + 1), by omega, rfl, hlt, ?_, sm.trans (s4.trans s5), _, .inl rfl⟩
      · have := List.length_filter_le p (xs.take i)
        rw [List.length_take] at this
        omega
      · rw [e3, hp]; rfl
    | false =>
      rw [if_neg (by decide)]
      refine ⟨xs.length - (i + 1), by omega, rfl, hlt, ?_, sm.trans s4, _, .inl rfl⟩
      rw [e3, hp]; simp
  · have e : i = xs.length := by omega
    subst e
    exact .inl ⟨⟨xs, sm.seq hl, Nat.le_refl _⟩, by have := hfin H' sm; rw [List.take_length]; exact this⟩
end L2

set_option maxHeartbeats 4000000
namespace Mine
open PySem PySem.Spec PyProof.Rows L2 PySem.Builtin PySem.Builtin.Str
inductive Thg where
  | num (m : Nat)
  | nms (c : Bool) (ys : List Str)
structure Trm where
  sg : Int
  th : Thg
noncomputable def kindOf : Thg → Str
  | .num _ => "number"
  | .nms c _ => if c = true then "call" else "path"
noncomputable def wordOf : Thg → Str
  | .num m => numS m
  | .nms c ys => if c = true then dotted ys ++ brk else dotted ys
noncomputable def sgw (s : Int) : Str := if s = 1 then "+" else "-"
noncomputable def wordsOf : List Trm → List Str
  | [] => []
  | t :: r => wordOf t.th :: (r.map fun t => [sgw t.sg, wordOf t.th]).flatten
noncomputable def textOf (ts : List Trm) : Str := Str.join ⟨#[32]⟩ (wordsOf ts)
structure GoodN (ys : List Str) : Prop where
  lo : ys ≠ []
  hi : ys.length ≤ 4
  nm : ∀ y ∈ ys, IsNm y
noncomputable def GoodTh : Thg → Prop
  | .num m => m < 10 ^ 20
  | .nms _ ys => GoodN ys
structure GoodT (t : Trm) : Prop where
  sg : t.sg = 1 ∨ t.sg = -1
  th : GoodTh t.th
structure GoodTs (ts : List Trm) : Prop where
  lo : ts ≠ []
  hi : ts.length ≤ 6
  ok : ∀ t ∈ ts, GoodT t
  hd : ∀ t, ts.head? = some t → t.sg = 1
theorem brk_len : brk.length = 2 := by decide +kernel
theorem GoodN.len {ys : List Str} (h : GoodN ys) : (dotted ys).length ≤ 36 := by
  have h1 := dotted_len ys
  have h2 : (ys.map (·.length)).sum ≤ ys.length * 8 := sum_le fun y hy => (h.nm y hy).hi
  have := h.hi
  omega
theorem word_len {th : Thg} (h : GoodTh th) : (wordOf th).length ≤ 38 := by
  cases th with
  | num m => exact Nat.le_trans (numS_ok h).2.1 (by decide)
  | nms c ys =>
    have := GoodN.len h
    cases c with
    | true => show (dotted ys ++ brk).length ≤ 38; rw [appLen, brk_len]; omega
    | false => show (dotted ys).length ≤ 38; omega
theorem word_free {th : Thg} (h : GoodTh th) : 32 ∉ (wordOf th).cps.toList := by
  cases th with
  | num m =>
    intro z
    have := digit_range z
    omega
  | nms c ys =>
    have key : 32 ∉ (dotted ys).cps.toList := fun z => by have := dotted_codes (GoodN.nm h) z; omega
    cases c with
    | true =>
      show 32 ∉ (dotted ys ++ brk).cps.toList
      rw [strApp, brk_codes]
      intro z
      rcases List.mem_append.mp z with z | z
      · exact key z
      · simp at z
    | false => exact key
theorem plus_codes : (("+" : Str)).cps.toList = [43] := by decide +kernel
theorem minus_codes : (("-" : Str)).cps.toList = [45] := by decide +kernel
theorem sgw_codes (s : Int) : (sgw s).cps.toList = [43] ∨ (sgw s).cps.toList = [45] := by
  unfold sgw; split
  · exact .inl plus_codes
  · exact .inr minus_codes
theorem sgw_len (s : Int) : (sgw s).length = 1 := by
  rw [strLen]; rcases sgw_codes s with e | e <;> rw [e] <;> rfl
theorem sgw_free (s : Int) : 32 ∉ (sgw s).cps.toList := by rcases sgw_codes s with e | e <;> rw [e] <;> decide
theorem wordsOf_mem {ts : List Trm} {x : Str} (h : x ∈ wordsOf ts) : (∃ t ∈ ts, x = wordOf t.th) ∨ ∃ t ∈ ts, x = sgw t.sg := by
  cases ts with
  | nil => simp [wordsOf] at h
  | cons t r =>
    rcases List.mem_cons.mp h with h | h
    · exact .inl ⟨t, List.mem_cons_self, h⟩
    · obtain ⟨l, hl, hx⟩ := List.mem_flatten.mp h
      obtain ⟨u, hu, rfl⟩ := List.mem_map.mp hl
      simp only [List.mem_cons, List.not_mem_nil, or_false] at hx
      rcases hx with hx | hx
      · exact .inr ⟨u, List.mem_cons_of_mem _ hu, hx⟩
      · exact .inl ⟨u, List.mem_cons_of_mem _ hu, hx⟩
theorem wordsOf_ne {ts : List Trm} (h : ts ≠ []) : wordsOf ts ≠ [] := by
  cases ts with
  | nil => exact absurd rfl h
  | cons t r => intro z; cases z
theorem blank_eq : ((" " : Str)) = ⟨#[32]⟩ := by decide +kernel
theorem text_split {ts : List Trm} (h : GoodTs ts) : Txt.split (textOf ts) (" " : Str) = wordsOf ts := by
  rw [blank_eq]
  refine split_join 32 _ (wordsOf_ne h.lo) fun y hy => ?_
  rcases wordsOf_mem hy with ⟨t, ht, rfl⟩ | ⟨t, ht, rfl⟩
  · exact word_free (h.ok t ht).th
  · exact sgw_free _
theorem flat_len (r : List Trm) : ((r.map fun t => [sgw t.sg, wordOf t.th]).flatten).length = 2 * r.length := by
  induction r with
  | nil => rfl
  | cons t r ih => rw [List.map_cons, List.flatten_cons, List.length_append, ih]; simp; omega
theorem wordsOf_len {ts : List Trm} (h : ts ≠ []) : (wordsOf ts).length = 2 * ts.length - 1 := by
  cases ts with
  | nil => exact absurd rfl h
  | cons t r => show (_ :: _).length = _; rw [List.length_cons, flat_len, List.length_cons]; omega
theorem flat_at : ∀ (r : List Trm) (i : Nat) (t : Trm), r[i]? = some t →
    ((r.map fun t => [sgw t.sg, wordOf t.th]).flatten)[2 * i]? = some (sgw t.sg) ∧ ((r.map fun t => [sgw t.sg, wordOf t.th]).flatten)[2 * i + 1]? = some (wordOf t.th)
  | [], i, t, h => by simp at h
  | u :: r, 0, t, h => by
    have : u = t := by simpa using h
    subst this
    exact ⟨rfl, rfl⟩
  | u :: r, i + 1, t, h => by
    have ih := flat_at r i t (by simpa using h)
    rw [List.map_cons, List.flatten_cons, show 2 * (i + 1) = 2 * i + 1 + 1 from by omega]
    exact ih
theorem words_at {ts : List Trm} {i : Nat} {t : Trm} (h : ts[i + 1]? = some t) : (wordsOf ts)[2 * i + 1]? = some (sgw t.sg) ∧ (wordsOf ts)[2 * i + 2]? = some (wordOf t.th) := by
  cases ts with
  | nil => simp at h
  | cons u r => exact flat_at r i t (by simpa using h)
theorem wordsOf_snoc {ts : List Trm} (t : Trm) (h : ts ≠ []) : wordsOf (ts ++ [t]) = wordsOf ts ++ [sgw t.sg, wordOf t.th] := by
  cases ts with
  | nil => exact absurd rfl h
  | cons u r =>
    show wordOf u.th :: ((r ++ [t]).map fun t => [sgw t.sg, wordOf t.th]).flatten = wordOf u.th :: (r.map fun t => [sgw t.sg, wordOf t.th]).flatten ++ [sgw t.sg, wordOf t.th]
    rw [List.map_append, List.flatten_append]
    simp
noncomputable def gap (s : Int) : Str := if s = 1 then " + " else " - "
theorem gap_codes (s : Int) : (gap s).cps.toList = 32 :: ((sgw s).cps.toList ++ [32]) := by
  unfold gap sgw
  split
  · rw [plus_codes]; decide +kernel
  · rw [minus_codes]; decide +kernel
theorem gap_len (s : Int) : (gap s).length = 3 := by
  rw [strLen, gap_codes, List.length_cons, List.length_append, ← strLen, sgw_len]; rfl
theorem textOf_snoc {ts : List Trm} (t : Trm) (h : ts ≠ []) : textOf (ts ++ [t]) = textOf ts ++ gap t.sg ++ wordOf t.th := by
  unfold textOf
  rw [wordsOf_snoc t h, show wordsOf ts ++ [sgw t.sg, wordOf t.th] = (wordsOf ts ++ [sgw t.sg]) ++ [wordOf t.th] from by simp, join_snoc _ _ _ (by simp), join_snoc _ _ _ (wordsOf_ne h)]
  apply strExt
  simp only [strApp, gap_codes, List.append_assoc]
  simp
theorem textOf_len {ts : List Trm} (h : ∀ t ∈ ts, GoodT t) : (textOf ts).length ≤ 80 * ts.length := by
  unfold textOf
  have h1 := StrLaws.join_length_le ⟨#[32]⟩ (wordsOf ts)
  have e : (⟨#[32]⟩ : Str).length = 1 := rfl
  rw [e] at h1
  have h2 : ((wordsOf ts).map (·.length)).sum ≤ (wordsOf ts).length * 38 := sum_le fun y hy => by
    rcases wordsOf_mem hy with ⟨t, ht, rfl⟩ | ⟨t, ht, rfl⟩
    · exact word_len (h t ht).th
    · rw [sgw_len]; decide
  cases ts with
  | nil => exact Nat.le_of_eq rfl
  | cons t r =>
    have := wordsOf_len (ts := t :: r) (by simp)
    omega
theorem mul_brk (k : Bool) : Txt.mul brk (if k = true then 1 else 0) = if k = true then brk else Str.empty := by cases k <;> rfl
theorem app_empty (a : Str) : a ++ Str.empty = a := by apply strExt; rw [strApp]; simp [Str.empty]
end Mine

set_option maxHeartbeats 4000000
namespace L2
open PySem PySem.Spec PyProof.Rows
theorem comp_rangeP {lo : Int} {n : Nat} {te : TE} {τ0 : St} {H : Hp} {Fin : List V → Hp → Prop} (R : Nat → V → Hp → Prop) (hm : ∀ i v H' H'', R i v H' → Same H' H'' → R i v H'') (hn : n ≤ sizeLine)
    (hte : ∀ (i : Nat) H' (Q : VK), i < n → Same H H' → (∀ v H'', Same H' H'' → R i v H'' → Q v H'') → te (τ0.set 0 (some (.int (lo + i)))) H' Q)
    (hfin : ∀ ys H', Same H H' → ys.length = n → (∀ (i : Nat) v, ys[i]? = some v → R i v H') → Fin ys H') : CompW (gName 0) tYes te (Itr lo n) τ0 H Fin := by
  refine ⟨fun i m τ ys H' => m = n - i ∧ i ≤ n ∧ ys.length = i ∧ (∀ (j : Nat) v, ys[j]? = some v → R j v H') ∧ Same H H' ∧ ∃ v, τ = τ0.set 0 v ∨ τ = τ0, ⟨n, rfl, Nat.zero_le _, rfl, fun j v h => by simp at h, Same.refl _, none, .inr rfl⟩, ?_⟩
  rintro i m τ ys H' ⟨rfl, hi, hl, hr, sm, v, hτ⟩
  by_cases hlt : i < n
  · refine .inr ⟨hlt, fun x H'' y => ?_⟩
    obtain ⟨e, y⟩ := y
    subst e y
    have e2 : τ.set 0 (some (V.int (lo + i))) = τ0.set 0 (some (V.int (lo + i))) := by
      rcases hτ with rfl | rfl
      · rw [List.set_set]
      · rfl
    unfold gName tYes
    rw [e2]
    dsimp only
    rw [if_pos rfl]
    refine hte i H'' _ hlt sm fun v H4 s4 hv => ?_
    refine ⟨by omega, n - (i + 1), by omega, rfl, hlt, by rw [List.length_append, hl]; rfl, fun j u hj => ?_, sm.trans s4, _, .inl rfl⟩
    by_cases hji : j < ys.length
    · rw [List.getElem?_append_left hji] at hj
      exact hm _ _ _ _ (hr j u hj) s4
    · rw [List.getElem?_append_right (by omega)] at hj
      have hj0 : j - ys.length = 0 := by
        cases hh : j - ys.length with
        | zero => rfl
        | succ k => rw [hh] at hj; simp at hj
      rw [hj0] at hj
      have : j = i := by omega
      subst this
      have : v = u := by simpa using hj
      subst this
      exact hv
  · have e : i = n := by omega
    subst e
    exact .inl ⟨Nat.le_refl _, hfin ys H' sm hl hr⟩
theorem comp_listI {K : PySem.W.Frag} {a : Addr} {xs : List V} {te : TE} {τ0 : St} {H : Hp} {Fin : List V → Hp → Prop} (f : Nat → V) (hn : xs.length ≤ sizeLine) (hl : SqL K H a xs)
    (hte : ∀ (i : Nat) x H' (Q : VK), xs[i]? = some x → Same H H' → (∀ H'', Same H' H'' → Q (f i) H'') → te (τ0.set 0 (some x)) H' Q)
    (hfin : ∀ H', Same H H' → Fin ((List.range xs.length).map f) H') : CompW (gName 0) tYes te (Itl K a) τ0 H Fin := by
  refine ⟨fun i m τ ys H' => m = xs.length - i ∧ i ≤ xs.length ∧ ys = (List.range i).map f ∧ Same H H' ∧ ∃ v, τ = τ0.set 0 v ∨ τ = τ0, ⟨xs.length, rfl, Nat.zero_le _, rfl, Same.refl _, none, .inr rfl⟩, ?_⟩
  rintro i m τ ys H' ⟨rfl, hi, rfl, sm, v, hτ⟩
  by_cases hlt : i < xs.length
  · refine .inr ⟨⟨xs, xs[i], sm.seq hl, by simp [hlt]⟩, fun x H'' y => ?_⟩
    obtain ⟨e, y⟩ := y
    subst e
    have hx := y xs (sm.seq hl)
    have e2 : τ.set 0 (some x) = τ0.set 0 (some x) := by
      rcases hτ with rfl | rfl
      · rw [List.set_set]
      · rfl
    unfold gName tYes
    rw [e2]
    dsimp only
    rw [if_pos rfl]
    refine hte i x H'' _ hx sm fun H4 s4 => ?_
    exact ⟨by rw [List.length_map, List.length_range]; omega, xs.length - (i + 1), by omega, rfl, hlt, by rw [List.range_succ, List.map_append]; rfl, sm.trans s4, _, .inl rfl⟩
  · have e : i = xs.length := by omega
    subst e
    exact .inl ⟨⟨xs, sm.seq hl, Nat.le_refl _⟩, hfin H' sm⟩
end L2
namespace Mine
open PySem PySem.Spec PyProof.Rows L2 PySem.Builtin PySem.Builtin.Str
noncomputable def ThAt (H : Hp) (x : V) : Thg → Prop
  | .num m => x = .int ((m : Nat) : Int)
  | .nms _ ys => ∃ q, x = .ref q ∧ H q = some (.tup (ys.map V.str))
noncomputable def TmAt (H : Hp) (v : V) (t : Trm) : Prop := ∃ p x, v = .ref p ∧ H p = some (.tup [.int t.sg, .str (kindOf t.th), x]) ∧ ThAt H x t.th
noncomputable def TmsAt (H : Hp) (l : Addr) (ts : List Trm) : Prop := ∃ xs, H l = some (.lst xs) ∧ xs.length = ts.length ∧ ∀ (i : Nat) x, xs[i]? = some x → ∃ t, ts[i]? = some t ∧ TmAt H x t
theorem ThAt.same {H H' : Hp} {x : V} {th : Thg} (h : ThAt H x th) (s : Same H H') : ThAt H' x th := by
  cases th with
  | num m => exact h
  | nms c ys => obtain ⟨q, e, hq⟩ := h; exact ⟨q, e, s _ _ hq⟩
theorem TmAt.same {H H' : Hp} {v : V} {t : Trm} (h : TmAt H v t) (s : Same H H') : TmAt H' v t := by
  obtain ⟨p, x, e, hp, hx⟩ := h
  exact ⟨p, x, e, s _ _ hp, hx.same s⟩
theorem TmsAt.same {H H' : Hp} {l : Addr} {ts : List Trm} (h : TmsAt H l ts) (s : Same H H') : TmsAt H' l ts := by
  obtain ⟨xs, hl, hn, hx⟩ := h
  refine ⟨xs, s _ _ hl, hn, fun i x e => ?_⟩
  obtain ⟨t, ht, tm⟩ := hx i x e
  exact ⟨t, ht, tm.same s⟩
theorem TmAt.upd {H : Hp} {v : V} {t : Trm} {l : Addr} {ys : List V} {o : HO} (h : TmAt H v t) (hl : H l = some (.lst ys)) : TmAt (upd H l o) v t := by
  obtain ⟨p, x, e, hp, hx⟩ := h
  refine ⟨p, x, e, by rw [upd_ne (ne_of hp hl (by intro z; cases z))]; exact hp, ?_⟩
  cases hth : t.th with
  | num m => rw [hth] at hx; exact hx
  | nms c zs =>
    rw [hth] at hx
    obtain ⟨q, e, hq⟩ := hx
    exact ⟨q, e, by rw [upd_ne (ne_of hq hl (by intro z; cases z))]; exact hq⟩
theorem ThAt.deq {K : PySem.W.Frag} {H : Hp} {x y : V} {th : Thg} (h1 : ThAt H x th) (h2 : ThAt H y th) : DEq K H 1 x y := by
  cases th with
  | num m => cases h1; cases h2; exact .int _
  | nms c ys =>
    obtain ⟨q, rfl, hq⟩ := h1
    obtain ⟨r, rfl, hr⟩ := h2
    refine .tup (SqT.of hq) (SqT.of hr) rfl fun i a b ha hb => ?_
    rw [ha] at hb; cases hb
    rw [List.getElem?_map] at ha
    cases hy : ys[i]? with
    | none => rw [hy] at ha; cases ha
    | some z => rw [hy] at ha; cases ha; exact .str z
theorem TmAt.items {K : PySem.W.Frag} {H : Hp} {t : Trm} {x y : V} (h1 : ThAt H x t.th) (h2 : ThAt H y t.th) :
    ∀ (i : Nat) a b, ([.int t.sg, .str (kindOf t.th), x] : List V)[i]? = some a → ([.int t.sg, .str (kindOf t.th), y] : List V)[i]? = some b → DEq K H 1 a b
  | 0, a, b, ha, hb => by cases ha; cases hb; exact .int _
  | 1, a, b, ha, hb => by cases ha; cases hb; exact .str _
  | 2, a, b, ha, hb => by cases ha; cases hb; exact h1.deq h2
  | i + 3, a, b, ha, hb => by simp at ha
theorem TmAt.dsq {K : PySem.W.Frag} {H : Hp} {t : Trm} {p q : Addr} {x y : V} (hp : H p = some (.tup [.int t.sg, .str (kindOf t.th), x])) (hq : H q = some (.tup [.int t.sg, .str (kindOf t.th), y])) (h1 : ThAt H x t.th) (h2 : ThAt H y t.th) : DSq K H p q :=
  ⟨1, [.int t.sg, .str (kindOf t.th), x], [.int t.sg, .str (kindOf t.th), y], by decide, rfl, .inl ⟨SqT.of hp, SqT.of hq⟩, TmAt.items h1 h2⟩
theorem choose_list {α β : Type} (P : Nat → α → β → Prop) : ∀ (ys : List α) (k : Nat), (∀ (i : Nat) v, ys[i]? = some v → ∃ t, P (k + i) v t) → ∃ ts : List β, ts.length = ys.length ∧ ∀ (i : Nat) v, ys[i]? = some v → ∃ t, ts[i]? = some t ∧ P (k + i) v t
  | [], k, _ => ⟨[], rfl, fun i v h => by simp at h⟩
  | y :: ys, k, h => by
    obtain ⟨t0, h0⟩ := h 0 y rfl
    obtain ⟨ts, hl, ht⟩ := choose_list P ys (k + 1) fun i v e => by
      have := h (i + 1) v (by simpa using e)
      rwa [show k + (i + 1) = k + 1 + i from by omega] at this
    refine ⟨t0 :: ts, by simp [hl], fun i v e => ?_⟩
    cases i with
    | zero => cases e; exact ⟨t0, rfl, h0⟩
    | succ i =>
      obtain ⟨t, e2, p⟩ := ht i v (by simpa using e)
      refine ⟨t, by simpa using e2, ?_⟩
      rwa [show k + (i + 1) = k + 1 + i from by omega]
theorem cut_drop (xs : List V) : cutV xs (some 1) none = xs.drop 1 := by
  unfold cutV
  have e : HT.sIx xs.length 0 (some 1) = min 1 xs.length := HT.sIx_nat xs.length 0 1
  rw [e, HT.sIx_none]
  cases xs with
  | nil => rfl
  | cons a r => 
    rw [show min 1 (a :: r).length = 1 from by simp]
    exact List.take_of_length_le (by simp)
theorem log2_small {m : Nat} (h : m < 10 ^ 20) : m.log2 < 1920 := by
  by_cases h0 : m = 0
  · subst h0; decide
  · exact Nat.lt_trans ((Nat.log2_lt h0).mpr (Nat.lt_trans h (by decide : 10 ^ 20 < 2 ^ 70))) (by decide)
theorem mul_brk_ok (k : Bool) : MulOk brk (if k = true then 1 else 0) := by
  cases k
  · exact ⟨by decide, fun z => absurd (by decide) z, fun z => absurd (by decide) z⟩
  · exact ⟨by decide, fun _ z => (by cases z), fun _ z => (by cases z)⟩
end Mine

set_option maxHeartbeats 4000000
namespace L2
open PySem PySem.Spec PyProof.Rows PySem.W
section
variable {X : Cx} {x : Str} {pos : Pos}
theorem pglR {y : Addr} (h : X.mg x = some (.ref y)) (hg : Gl X x := by rfl) (hd : (x == ("__debug__" : Str)) = false := by decide) : PE X (.Name x pos) (tC (.ref y)) := pe_glob hg h rfl hd
noncomputable def rInstC (K : Frag) : List V → Hp → VK → Prop := fun xs H Q => ∃ x t c b, xs = [x, .ref c] ∧ TyOf K H x t ∧ kitOne K t (.ref c) = some b ∧ Q (.bl b) H
theorem call_instC : CallR X (.builtin "isinstance") (rInstC X.K) := by
  intro pins s σ H xs us Q I r h
  obtain ⟨x, t, c, b, rfl, ty, e, q⟩ := h
  obtain ⟨u, u2, rfl, rx, ry⟩ := vals2 r
  cases (show u2 = Value.ref c from ry)
  exact isinst_ok I rx ty e fun tk => ⟨.bl b, H, I.tok tk, rfl, q⟩
end
structure RCl (K : Frag) (C : Addr) : Prop where
  cl : Cls K C
  ha : findIn K (.ref C) "__class__" = some (some (.builtin "object.__class__"))
  hn : specialIn K (.builtin "object.__class__") "__get__" = some (some (.builtin "getset_descriptor.__get__"))
  htk : takesIn K (.builtin "object.__class__") = some true
  hm : mroIn K C (.type "object") = some true
theorem RCl.ty {K : Frag} {C a dx : Addr} {H : Hp} {fs : List (Str × V)} (c : RCl K C) (e : H a = some (.ins C dx fs)) : TyOf K H (.ref a) (.ref C) := .ins e c.cl c.ha c.hn c.htk c.hm
structure MkN (K : Frag) (C : Addr) : Prop where
  makes : makesIn K C = true
  init : findIn K (.ref C) "__init__" = some (some (.builtin "object.__init__"))
  kp : keepIn K (.ref C) = true
section
variable {X : Cx} {C : Addr} {x : Str} {p pos : Pos}
end
section
variable {X : Cx} {C f : Addr} {k : Nat} {fd : FuncData} {ps : List Str} {sp : Sp} {x : Str} {p pos : Pos} {e : Expr} {es : List Expr} {t : TA}
theorem rmake (M : Mk X.K C f) (b : Binds X.K fd ps []) (G : FnOk X.prog X.w X.K X.mg X.base CX0 k f fd ps sp) (hr : Room (k + 1) X.A) (hm : X.mg x = some (.ref C)) (ha : PA X (e :: es) t) (hg : Gl X x := by rfl)
    (hdb : (x == ("__debug__" : Str)) = false := by decide) (he : starEach (e :: es) X.env = (false, eval e X.env) :: starEach es X.env := by rfl) (hpl : (backTo pos (starEach es X.env)).any (·.1) = false := by rfl) :
    PE X (.Call (.Name x p) (e :: es) [] pos) (tMake C sp [] E0 t) := pe_make M G hr hg hm b .nil pass0 ha hdb he hpl
end
noncomputable def VM (P : Program) (w : World) (K : Frag) (mg : Str → Option Value) (base : Heap) (k : Nat) (C : Addr) (m : Str) (sp : Sp) : Prop := ∃ f fd ps, Meth K C m f ∧ FnOk P w K mg base CX0 k f fd ps sp ∧ Binds K fd ps []
noncomputable def MV (P : Program) (w : World) (K : Frag) (mg : Str → Option Value) (base : Heap) (k : Nat) (m : Str) (x : V) (H : Hp) (Q : VK) : Prop :=
  ∃ a C dx fs sp, x = .ref a ∧ H a = some (.ins C dx fs) ∧ fs.lookup m = none ∧ Cls K C ∧ VM P w K mg base k C m sp ∧ sp [x] H Q E0
noncomputable def tMethV (P : Program) (w : World) (K : Frag) (mg : Str → Option Value) (base : Heap) (k : Nat) (m : Str) (ta : TE) : TE := fun σ H Q => ta σ H fun x H1 => MV P w K mg base k m x H1 Q
section
variable {X : Cx} {P : Program} {w : World} {K : Frag} {mg : Str → Option Value} {base : Heap} {k : Nat} {m : Str} {o : Expr} {ta : TE} {pos apos : Pos}
theorem pe_methV {pl : Sem Bool} (h1 : X.prog = P) (h2 : X.w = w) (h3 : X.K = K) (h4 : X.mg = mg) (h5 : X.base = base) (hr : Room k X.A) (he : PE X o ta)
    (ht : eval (.Call (.Attribute o m apos) [] [] pos) X.env = (do
      let ov ← eval o X.env
      standAt apos.atName
      let (f, first) ← holding [ov] (getMethod ov m pl)
      callWith pos f first (backTo pos (starEach [] X.env)) (backToKw pos (keywordEach [] X.env))) := by rfl) :
    PE X (.Call (.Attribute o m apos) [] [] pos) (tMethV P w K mg base k m ta) := by
  subst h1 h2 h3 h4 h5
  intro pins s σ H Q I h
  refine PySem.W.methodCall_KW (pl := pl) (thn (he pins s σ H _ I h) fun u s1 hz => ?_) ht
  obtain ⟨x, H1, I1, rx, a, C, dx, fs, sp, ex, ea, l, c, ⟨f, fd, ps, hm, F, hb⟩, q⟩ := hz
  subst ex
  obtain rfl : u = Value.ref a := rx
  refine getmeth_ok I1 ea c hm l ?_
  exact PySem.W.callWith_K0 (first := [.ref a]) I1.kIn hm.kp (run_fn (us := [.ref a]) (vs := [.ref a]) (dvs := []) (ds := []) F hr hb .nil pass0 I1 (.cons rfl .nil) q)
end
section
variable {X : Cx} {o value : Expr} {f : Str} {pos pos' : Pos} {ta tv : TE}
theorem qs_fld (ha : PE X o ta) (hv : PE X value tv) (hs : swapsWith value (some (.Attribute o f pos')) pos.line X.env = pure false := by rfl) : QS X (.Assign [.Attribute o f pos'] value pos) (sFld X.K ta tv f) := ⟨ps_fld ha hv hs⟩
end
structure MAt (K : Frag) (m q : Str) (st : Stmt) (ps : List Str) (f : Addr) (fd : FuncData) : Prop where
  F : Fun K m q st f fd
  b : Binds K fd ps []
theorem rdF {K : Frag} {H : Hp} {a C dx : Addr} {fs : List (Str × V)} {v : V} {f : Str} {q : V → Prop} (ha : H a = some (.ins C dx fs)) (c : Cls K C) (n : NoAttr K C f) (l : fs.lookup f = some v) (h : q v) :
    ∃ a' C' dx' fs' v', V.ref a = .ref a' ∧ H a' = some (.ins C' dx' fs') ∧ Cls K C' ∧ NoAttr K C' f ∧ fs'.lookup f = some v' ∧ q v' := ⟨a, C, dx, fs, v, rfl, ha, c, n, l, h⟩
theorem all7 {p : Nat → Prop} (h0 : p 0) (h1 : p 1) (h2 : p 2) (h3 : p 3) (h4 : p 4) (h5 : p 5) (h6 : p 6) (i : Nat) (h : i ≤ 6) : p i := by
  cases i with
  | zero => exact h0
  | succ i => cases i with
    | zero => exact h1
    | succ i => cases i with
      | zero => exact h2
      | succ i => cases i with
        | zero => exact h3
        | succ i => cases i with
          | zero => exact h4
          | succ i => cases i with
            | zero => exact h5
            | succ i => cases i with
              | zero => exact h6
              | succ i => exact absurd h (by omega)
theorem upd_none {H : Hp} {p b : Addr} {o : HO} (h : upd H p o b = none) : H b = none ∧ b ≠ p := by
  unfold upd at h
  split at h
  · cases h
  · exact ⟨h, ‹_›⟩
theorem lkP {f : Str} {y : V} {fs : List (Str × V)} : (putF f y fs).lookup f = some y := by rw [lookup_putF, if_pos rfl]
theorem lkN {f g : Str} {y : V} {fs : List (Str × V)} (h : ¬ g = f) : (putF f y fs).lookup g = fs.lookup g := by rw [lookup_putF, if_neg h]
theorem lenP {f : Str} {y : V} {fs : List (Str × V)} {n : Nat} (h : fs.length < n) : (putF f y fs).length < n + 1 := by have := length_putF f y fs; omega
theorem Same.seqT {K : Frag} {H H' : Hp} {a : Addr} {xs : List V} (e : Same H H') (h : SqT K H a xs) : SqT K H' a xs := by
  rcases h with (h | ⟨o, h⟩) | h
  · exact .inl (.inl (e _ _ h))
  · exact .inl (.inr ⟨o, e _ _ h⟩)
  · exact .inr h
noncomputable def SameBut (x : Addr) (H H' : Hp) : Prop := ∀ b o, H b = some o → b ≠ x → H' b = some o
theorem sb3 {H : Hp} {x l : Addr} {o1 o2 o3 : HO} (hl : H l = none) : SameBut x H (upd (upd (upd H x o1) l o2) x o3) := fun b o e hb => by
  rw [upd_ne hb, upd_ne (ne_of_none e hl), upd_ne hb]; exact e
theorem sb2 {H : Hp} {x l : Addr} {o1 o2 : HO} (hl : H l = none) : SameBut x H (upd (upd H l o1) x o2) := fun b o e hb => by
  rw [upd_ne hb, upd_ne (ne_of_none e hl)]; exact e
theorem kit_own {K : Frag} {C D : Addr} {b : Bool} (m : mroIn K C (.ref D) = some b) (sD : mroIn K D (.ref D) = some true) (o : mroIn K D (.type "object") = some true) (ty : typeIn K (.ref D) = some (.type "type")) : kitOne K (.ref C) (.ref D) = some b := by
  unfold kitOne
  by_cases e : (Value.ref C == Value.ref D) = true
  · rw [if_pos e]
    have e' : C = D := by cases eq_of_beq e; rfl
    subst e'
    rw [m] at sD; exact sD.symm
  · rw [if_neg e]
    cases h : clsIn K D with
    | none => unfold mroIn at o; rw [h] at o; cases o
    | some cd =>
      show (if ((clsIn K D).isSome && typeIn K (.ref D) == some (.type "type")) = true then mroIn K C (.ref D) else none) = _
      rw [h, ty, if_pos (by simp), m]
theorem comp_listG {K : Frag} {a : Addr} {xs : List V} {g : TG} {te : TE} {τ0 : St} {H : Hp} {Fin : List V → Hp → Prop} (S : St → Prop) (R : Nat → V → Hp → Prop) (hm : ∀ i v H' H'', R i v H' → Same H' H'' → R i v H'') (hn : xs.length ≤ sizeLine) (hl : SqL K H a xs) (h0 : S τ0)
    (hte : ∀ (i : Nat) x τ H' (Q : St → V → Hp → Prop), xs[i]? = some x → Same H H' → S τ → (∀ τ2 v H'', S τ2 → Same H' H'' → R i v H'' → Q τ2 v H'') → g x τ H' fun τ2 H2 => te τ2 H2 fun y H4 => Q τ2 y H4)
    (hfin : ∀ ys H', Same H H' → ys.length = xs.length → (∀ (i : Nat) v, ys[i]? = some v → R i v H') → Fin ys H') : CompW g tYes te (Itl K a) τ0 H Fin := by
  refine ⟨fun i m τ ys H' => m = xs.length - i ∧ i ≤ xs.length ∧ ys.length = i ∧ (∀ (j : Nat) v, ys[j]? = some v → R j v H') ∧ Same H H' ∧ S τ, ⟨xs.length, rfl, Nat.zero_le _, rfl, fun j v h => by simp at h, Same.refl _, h0⟩, ?_⟩
  rintro i m τ ys H' ⟨rfl, hi, hyl, hr, sm, hS⟩
  by_cases hlt : i < xs.length
  · refine .inr ⟨⟨xs, xs[i], sm.seq hl, by simp [hlt]⟩, fun x H'' y => ?_⟩
    obtain ⟨e, y⟩ := y
    subst e
    have hx := y xs (sm.seq hl)
    have key := hte i x τ H'' (fun τ2 y H4 => ys.length < sizeLine ∧ ∃ m', m' < xs.length - i ∧ (m' = xs.length - (i + 1) ∧ i + 1 ≤ xs.length ∧ (ys ++ [y]).length = i + 1 ∧ (∀ (j : Nat) v, (ys ++ [y])[j]? = some v → R j v H4) ∧ Same H H4 ∧ S τ2)) hx sm hS fun τ2 v H4 s2 s4 hv => by
      refine ⟨by omega, xs.length - (i + 1), by omega, rfl, hlt, by rw [List.length_append, hyl]; rfl, fun j u hj => ?_, sm.trans s4, s2⟩
      by_cases hji : j < ys.length
      · rw [List.getElem?_append_left hji] at hj
        exact hm _ _ _ _ (hr j u hj) s4
      · rw [List.getElem?_append_right (by omega)] at hj
        have hj0 : j - ys.length = 0 := by
          cases hh : j - ys.length with
          | zero => rfl
          | succ k => rw [hh] at hj; simp at hj
        rw [hj0] at hj
        have : j = i := by omega
        subst this
        have : v = u := by simpa using hj
        subst this
        exact hv
    exact key
  · have e : i = xs.length := by omega
    subst e
    exact .inl ⟨⟨xs, sm.seq hl, Nat.le_refl _⟩, hfin ys H' sm hyl hr⟩
theorem comp_tupI {K : Frag} {a : Addr} {xs : List V} {te : TE} {τ0 : St} {H : Hp} {Fin : List V → Hp → Prop} (f : Nat → V) (hn : xs.length ≤ sizeLine) (hl : SqT K H a xs)
    (hte : ∀ (i : Nat) x H' (Q : VK), xs[i]? = some x → Same H H' → (∀ H'', Same H' H'' → Q (f i) H'') → te (τ0.set 0 (some x)) H' Q)
    (hfin : ∀ H', Same H H' → Fin ((List.range xs.length).map f) H') : CompW (gName 0) tYes te (Itt K a) τ0 H Fin := by
  refine ⟨fun i m τ ys H' => m = xs.length - i ∧ i ≤ xs.length ∧ ys = (List.range i).map f ∧ Same H H' ∧ ∃ v, τ = τ0.set 0 v ∨ τ = τ0, ⟨xs.length, rfl, Nat.zero_le _, rfl, Same.refl _, none, .inr rfl⟩, ?_⟩
  rintro i m τ ys H' ⟨rfl, hi, rfl, sm, v, hτ⟩
  by_cases hlt : i < xs.length
  · refine .inr ⟨⟨xs, xs[i], sm.seqT hl, by simp [hlt]⟩, fun x H'' y => ?_⟩
    obtain ⟨e, y⟩ := y
    subst e
    have hx := y xs (sm.seqT hl)
    have e2 : τ.set 0 (some x) = τ0.set 0 (some x) := by
      rcases hτ with rfl | rfl
      · rw [List.set_set]
      · rfl
    unfold gName tYes
    rw [e2]
    dsimp only
    rw [if_pos rfl]
    refine hte i x H'' _ hx sm fun H4 s4 => ?_
    exact ⟨by rw [List.length_map, List.length_range]; omega, xs.length - (i + 1), by omega, rfl, hlt, by rw [List.range_succ, List.map_append]; rfl, sm.trans s4, _, .inl rfl⟩
  · have e : i = xs.length := by omega
    subst e
    exact .inl ⟨⟨xs, sm.seqT hl, Nat.le_refl _⟩, hfin H' sm⟩
theorem len0 {α : Type} {us : List α} (h : us.length = 0) : us = [] := List.length_eq_zero_iff.mp h
theorem len_s {α : Type} {us : List α} {n : Nat} (h : us.length = n + 1) : ∃ a r, us = a :: r ∧ r.length = n := by
  cases us with
  | nil => cases h
  | cons a r => exact ⟨a, r, rfl, Nat.succ.inj h⟩
theorem len1 {α : Type} {us : List α} (h : us.length = 1) : ∃ a, us = [a] := by
  obtain ⟨a, r, rfl, k⟩ := len_s h
  exact ⟨a, by rw [len0 k]⟩
theorem len2 {α : Type} {us : List α} (h : us.length = 2) : ∃ a b, us = [a, b] := by
  obtain ⟨a, r, rfl, k⟩ := len_s h
  obtain ⟨b, rfl⟩ := len1 k
  exact ⟨a, b, rfl⟩
theorem len3 {α : Type} {us : List α} (h : us.length = 3) : ∃ a b c, us = [a, b, c] := by
  obtain ⟨a, r, rfl, k⟩ := len_s h
  obtain ⟨b, c, rfl⟩ := len2 k
  exact ⟨a, b, c, rfl⟩
theorem len4 {α : Type} {us : List α} (h : us.length = 4) : ∃ a b c d, us = [a, b, c, d] := by
  obtain ⟨a, r, rfl, k⟩ := len_s h
  obtain ⟨b, c, d, rfl⟩ := len3 k
  exact ⟨a, b, c, d, rfl⟩
theorem dsq_bools {K : Frag} {H : Hp} {a b : Addr} {bs : List Bool} (ha : H a = some (.lst (bs.map V.bl))) (hb : H b = some (.lst (bs.map V.bl))) : DSq K H a b :=
  ⟨0, _, _, by decide, rfl, .inr ⟨SqL.of ha, SqL.of hb⟩, fun i x y ex ey => by
    rw [ex] at ey; cases ey
    rw [List.getElem?_map] at ex
    cases e : bs[i]? with
    | none => rw [e] at ex; cases ex
    | some z => rw [e] at ex; cases ex; exact .bl _⟩
theorem dsq_strs {K : Frag} {H : Hp} {a b : Addr} {bs : List Str} (ha : H a = some (.lst (bs.map V.str))) (hb : H b = some (.lst (bs.map V.str))) : DSq K H a b :=
  ⟨0, _, _, by decide, rfl, .inr ⟨SqL.of ha, SqL.of hb⟩, fun i x y ex ey => by
    rw [ex] at ey; cases ey
    rw [List.getElem?_map] at ex
    cases e : bs[i]? with
    | none => rw [e] at ex; cases ex
    | some z => rw [e] at ex; cases ex; exact .str _⟩
end L2

set_option maxHeartbeats 4000000
namespace Mine
open PySem PySem.Spec PyProof.Rows L2 PySem.Builtin PySem.Builtin.Str
structure RowD where
  so : Nat
  nm : Str
  ad : Str
  wd : Str
  ts : List Trm
noncomputable def sortW : Nat → Str
  | 0 => "let"
  | 1 => "deed"
  | 2 => "draw"
  | 3 => "late"
  | 4 => "take"
  | _ => "need"
structure GoodA (ys : List Str) : Prop where
  lo : ys ≠ []
  hi : ys.length ≤ 3
  nm : ∀ y ∈ ys, IsNm y
structure GoodR (r : RowD) : Prop where
  so : r.so ≤ 5
  nm : r.so < 5 → IsNm r.nm
  no : r.so = 5 → r.nm = ""
  ad : ∃ ys, GoodA ys ∧ r.ad = dotted ys
  wd : IsNm r.wd
  ts : GoodTs r.ts
  dd : r.so = 1 → ∀ t ∈ r.ts, ∀ ys, t.th ≠ .nms true ys
theorem GoodA.len {ys : List Str} (h : GoodA ys) : (dotted ys).length ≤ 36 := GoodN.len ⟨h.lo, Nat.le_trans h.hi (by decide), h.nm⟩
theorem GoodR.nl {r : RowD} (h : GoodR r) : r.nm.length ≤ 8 := by
  rcases Nat.lt_or_ge r.so 5 with k | k
  · exact (h.nm k).hi
  · rw [h.no (by have := h.so; omega)]; decide
theorem GoodR.al {r : RowD} (h : GoodR r) : r.ad.length ≤ 36 := by
  obtain ⟨ys, g, e⟩ := h.ad
  rw [e]; exact g.len
theorem GoodR.tl {r : RowD} (h : GoodR r) : (textOf r.ts).length ≤ 480 := by
  have := textOf_len (ts := r.ts) fun t ht => h.ts.ok t ht
  have := h.ts.hi
  omega
noncomputable def saidOf (r : RowD) : Str := match r.so with
  | 0 => "let " ++ r.nm ++ " be " ++ textOf r.ts
  | 1 => "deed " ++ r.nm ++ " be " ++ textOf r.ts
  | 2 => "draw " ++ r.ad ++ " as " ++ r.nm
  | 3 => "late " ++ r.ad ++ " as " ++ r.nm
  | 4 => "take " ++ r.wd ++ " from " ++ r.ad ++ " as " ++ r.nm
  | _ => "need " ++ textOf r.ts
noncomputable def askedOf (r : RowD) : List Str := if r.so = 2 ∨ r.so = 3 ∨ r.so = 4 then [r.ad] else []
theorem len_let : (("let " : Str)).length = 4 := by decide +kernel
theorem len_deed : (("deed " : Str)).length = 5 := by decide +kernel
theorem len_draw : (("draw " : Str)).length = 5 := by decide +kernel
theorem len_late : (("late " : Str)).length = 5 := by decide +kernel
theorem len_take : (("take " : Str)).length = 5 := by decide +kernel
theorem len_need : (("need " : Str)).length = 5 := by decide +kernel
theorem len_be : ((" be " : Str)).length = 4 := by decide +kernel
theorem len_as : ((" as " : Str)).length = 4 := by decide +kernel
theorem len_from : ((" from " : Str)).length = 6 := by decide +kernel
theorem abS {a b : Str} {m n : Nat} (ha : a.length ≤ m) (hb : b.length ≤ n) (h : m + n ≤ 1000 := by decide) : a.length + b.length ≤ sizeLine := Nat.le_trans (Nat.add_le_add ha hb) (Nat.le_trans h line_big)
theorem alS {a b : Str} {m n : Nat} (ha : a.length ≤ m) (hb : b.length ≤ n) : (a ++ b).length ≤ m + n := by rw [appLen]; exact Nat.add_le_add ha hb
noncomputable def RowTup (H : Hp) (v : V) (lt : Addr) (r : RowD) : Prop := ∃ p, v = .ref p ∧ H p = some (.tup [.str (sortW r.so), .str r.nm, .str r.ad, .str r.wd, .ref lt]) ∧ TmsAt H lt r.ts
structure Flds (H : Hp) (fs : List (Str × V)) (l : Addr) (r : RowD) : Prop where
  nm : r.so < 5 → fs.lookup ("name" : Str) = some (.str r.nm)
  tm : r.so = 0 ∨ r.so = 1 ∨ r.so = 5 → fs.lookup ("terms" : Str) = some (.ref l) ∧ TmsAt H l r.ts
  ad : r.so = 2 ∨ r.so = 3 ∨ r.so = 4 → fs.lookup ("address" : Str) = some (.str r.ad)
  wd : r.so = 4 → fs.lookup ("word" : Str) = some (.str r.wd)
  nb : fs.lookup ("binds" : Str) = none
  na : fs.lookup ("asked" : Str) = none
  ns : fs.lookup ("said" : Str) = none
noncomputable def RowAt (C : Nat → Addr) (H : Hp) (a l : Addr) (r : RowD) : Prop := ∃ dx fs, H a = some (.ins (C r.so) dx fs) ∧ Flds H fs l r
theorem Flds.same {H H' : Hp} {fs : List (Str × V)} {l : Addr} {r : RowD} (h : Flds H fs l r) (s : Same H H') : Flds H' fs l r :=
  ⟨h.nm, fun k => ⟨(h.tm k).1, (h.tm k).2.same s⟩, h.ad, h.wd, h.nb, h.na, h.ns⟩
theorem RowAt.same {C : Nat → Addr} {H H' : Hp} {a l : Addr} {r : RowD} (h : RowAt C H a l r) (s : Same H H') : RowAt C H' a l r := by
  obtain ⟨dx, fs, e, f⟩ := h
  exact ⟨dx, fs, s _ _ e, f.same s⟩
theorem RowTup.same {H H' : Hp} {v : V} {lt : Addr} {r : RowD} (h : RowTup H v lt r) (s : Same H H') : RowTup H' v lt r := by
  obtain ⟨p, e, hp, t⟩ := h
  exact ⟨p, e, s _ _ hp, t.same s⟩
theorem TmsAt.upd {H : Hp} {l d : Addr} {ts : List Trm} {ys : List V} {o : HO} (h : TmsAt H l ts) (hd : H d = some (.lst ys)) (hne : l ≠ d) : TmsAt (upd H d o) l ts := by
  obtain ⟨xs, hl, hn, hx⟩ := h
  refine ⟨xs, by rw [upd_ne hne]; exact hl, hn, fun i x e => ?_⟩
  obtain ⟨t, ht, tm⟩ := hx i x e
  exact ⟨t, ht, tm.upd hd⟩
theorem RowAt.upd {C : Nat → Addr} {H : Hp} {a l d : Addr} {r : RowD} {ys : List V} {o : HO} (h : RowAt C H a l r) (hd : H d = some (.lst ys)) (hne : l ≠ d) : RowAt C (upd H d o) a l r := by
  obtain ⟨dx, fs, e, f⟩ := h
  exact ⟨dx, fs, by rw [upd_ne (ne_of e hd (by intro z; cases z))]; exact e, f.nm, fun k => ⟨(f.tm k).1, (f.tm k).2.upd hd hne⟩, f.ad, f.wd, f.nb, f.na, f.ns⟩
theorem RowTup.upd {H : Hp} {v : V} {lt d : Addr} {r : RowD} {ys : List V} {o : HO} (h : RowTup H v lt r) (hd : H d = some (.lst ys)) (hne : lt ≠ d) : RowTup (upd H d o) v lt r := by
  obtain ⟨p, e, hp, t⟩ := h
  exact ⟨p, e, by rw [upd_ne (ne_of hp hd (by intro z; cases z))]; exact hp, t.upd hd hne⟩
theorem TmAt.but {H H' : Hp} {v : V} {t : Trm} {x C dx : Addr} {fs : List (Str × V)} (h : TmAt H v t) (hx : H x = some (.ins C dx fs)) (s : SameBut x H H') : TmAt H' v t := by
  obtain ⟨p, y, e, hp, hy⟩ := h
  refine ⟨p, y, e, s _ _ hp (ne_of hp hx (by intro z; cases z)), ?_⟩
  cases hth : t.th with
  | num m => rw [hth] at hy; exact hy
  | nms c zs =>
    rw [hth] at hy
    obtain ⟨q, e, hq⟩ := hy
    exact ⟨q, e, s _ _ hq (ne_of hq hx (by intro z; cases z))⟩
theorem said0 {r : RowD} (h : r.so = 0) : saidOf r = "let " ++ r.nm ++ " be " ++ textOf r.ts := by unfold saidOf; rw [h]; rfl
theorem said1 {r : RowD} (h : r.so = 1) : saidOf r = "deed " ++ r.nm ++ " be " ++ textOf r.ts := by unfold saidOf; rw [h]; rfl
theorem said2 {r : RowD} (h : r.so = 2) : saidOf r = "draw " ++ r.ad ++ " as " ++ r.nm := by unfold saidOf; rw [h]; rfl
theorem said3 {r : RowD} (h : r.so = 3) : saidOf r = "late " ++ r.ad ++ " as " ++ r.nm := by unfold saidOf; rw [h]; rfl
theorem said4 {r : RowD} (h : r.so = 4) : saidOf r = "take " ++ r.wd ++ " from " ++ r.ad ++ " as " ++ r.nm := by unfold saidOf; rw [h]; rfl
theorem said5 {r : RowD} (h : r.so = 5) : saidOf r = "need " ++ textOf r.ts := by unfold saidOf; rw [h]; rfl
noncomputable def kitv (i j : Nat) : Bool := decide (i = j) || decide (j = 6)
theorem sort_dec {i j : Nat} (hi : i ≤ 5) (hj : j ≤ 5) : decide (V.str (sortW i) = V.str (sortW j)) = kitv i j := by
  have k : ∀ i j : Fin 6, decide (V.str (sortW i.val) = V.str (sortW j.val)) = kitv i.val j.val := by decide +kernel
  exact k ⟨i, by omega⟩ ⟨j, by omega⟩
noncomputable def uncT : Thg → Thg
  | .num m => .num m
  | .nms _ ys => .nms false ys
noncomputable def unc (t : Trm) : Trm := ⟨t.sg, uncT t.th⟩
theorem unc_good {t : Trm} (h : GoodT t) : GoodT (unc t) := by
  refine ⟨h.sg, ?_⟩
  have := h.th
  unfold unc
  cases e : t.th with
  | num m => rw [e] at this; exact this
  | nms c ys => rw [e] at this; exact this
theorem unc_goods {ts : List Trm} (h : GoodTs ts) : GoodTs (ts.map unc) := by
  refine ⟨fun z => h.lo (List.map_eq_nil_iff.mp z), by rw [List.length_map]; exact h.hi, fun t ht => ?_, fun t ht => ?_⟩
  · obtain ⟨u, hu, rfl⟩ := List.mem_map.mp ht
    exact unc_good (h.ok u hu)
  · rw [List.head?_map] at ht
    cases e : ts.head? with
    | none => rw [e] at ht; cases ht
    | some u => rw [e] at ht; cases ht; exact h.hd u e
theorem unc_no {ts : List Trm} : ∀ t ∈ ts.map unc, ∀ ys, t.th ≠ .nms true ys := fun t ht ys z => by
  obtain ⟨u, _, rfl⟩ := List.mem_map.mp ht
  unfold unc at z
  cases e : u.th with
  | num m => rw [e] at z; cases z
  | nms c zs => rw [e] at z; cases z
theorem unc_kind (th : Thg) : atI [V.str "path", V.str (kindOf th)] (if decide (V.str (kindOf th) = V.str "number") = true then 1 else 0) = some (V.str (kindOf (uncT th))) := by
  cases th with
  | num m => rw [decide_eq_true (show V.str (kindOf (.num m)) = V.str "number" from rfl)]; rfl
  | nms c ys =>
    have hk : ¬ V.str (kindOf (.nms c ys)) = V.str "number" := by
      cases c
      · show ¬ V.str "path" = V.str "number"; decide +kernel
      · show ¬ V.str "call" = V.str "number"; decide +kernel
    rw [decide_eq_false hk]
    rfl
end Mine

set_option maxHeartbeats 4000000
namespace L2
open PySem PySem.Spec PyProof.Rows PySem.W
section
variable {X : Cx} {pos : Pos} {t : TS}
theorem qs_try {body : List Stmt} {h₀ : ExceptHandler} {hs : List ExceptHandler} (hx : ∀ e s, X.xe e s → False) (hb : QSs X body t) : QS X (.Try body (h₀ :: hs) [] [] pos) t := ⟨by
  intro pins s σ H D I h
  refine wpAny_Try_except (wpAny_mono (hb.h pins s σ H D I h) (fun f s1 q => ?_) (fun e s1 q => (hx e s1 q).elim))
  cases f with
  | next =>
    obtain ⟨σ', H', I', q'⟩ := q
    exact pss_nil pins s1 σ' H' D I' q'
  | brk => exact q
  | cont => exact q
  | ret u => exact q⟩
end
theorem cut_from (xs : List V) (k : Nat) : cutV xs (some (k : Int)) none = xs.drop k := by
  unfold cutV
  rw [HT.sIx_none, HT.sIx_nat]
  rw [List.take_of_length_le (by rw [List.length_drop]; exact Nat.le_refl _)]
  by_cases h : k ≤ xs.length
  · rw [Nat.min_eq_left h]
  · rw [Nat.min_eq_right (by omega), List.drop_length, List.drop_eq_nil_of_le (by omega)]
end L2
namespace Mine
open PySem PySem.Spec PyProof.Rows L2 PySem.Builtin PySem.Builtin.Str
noncomputable def wordsR (r : RowD) : List Str := match r.so with
  | 0 => "let" :: r.nm :: "be" :: wordsOf r.ts
  | 1 => "deed" :: r.nm :: "be" :: wordsOf r.ts
  | 2 => ["draw", r.ad, "as", r.nm]
  | 3 => ["late", r.ad, "as", r.nm]
  | 4 => ["take", r.wd, "from", r.ad, "as", r.nm]
  | _ => "need" :: wordsOf r.ts
theorem free_nm {z : Str} (h : IsNm z) : 32 ∉ z.cps.toList := fun k => by have := h.ok 32 k; omega
theorem free_ad {ys : List Str} (h : GoodA ys) : 32 ∉ (dotted ys).cps.toList := fun k => by
  rcases dotted_codes h.nm k with e | e
  · cases e
  · omega
theorem free_words {ts : List Trm} (h : GoodTs ts) {y : Str} (hy : y ∈ wordsOf ts) : 32 ∉ y.cps.toList := by
  rcases wordsOf_mem hy with ⟨t, ht, rfl⟩ | ⟨t, ht, rfl⟩
  · exact word_free (h.ok t ht).th
  · exact sgw_free _
theorem text_codes (ts : List Trm) : (textOf ts).cps.toList = inter 32 ((wordsOf ts).map (·.cps.toList)) := join_codes 32 _
theorem cd_let : (("let " : Str)).cps.toList = (("let" : Str)).cps.toList ++ [32] := by decide +kernel
theorem cd_deed : (("deed " : Str)).cps.toList = (("deed" : Str)).cps.toList ++ [32] := by decide +kernel
theorem cd_draw : (("draw " : Str)).cps.toList = (("draw" : Str)).cps.toList ++ [32] := by decide +kernel
theorem cd_late : (("late " : Str)).cps.toList = (("late" : Str)).cps.toList ++ [32] := by decide +kernel
theorem cd_take : (("take " : Str)).cps.toList = (("take" : Str)).cps.toList ++ [32] := by decide +kernel
theorem cd_need : (("need " : Str)).cps.toList = (("need" : Str)).cps.toList ++ [32] := by decide +kernel
theorem cd_be : ((" be " : Str)).cps.toList = 32 :: ((("be" : Str)).cps.toList ++ [32]) := by decide +kernel
theorem cd_as : ((" as " : Str)).cps.toList = 32 :: ((("as" : Str)).cps.toList ++ [32]) := by decide +kernel
theorem cd_from : ((" from " : Str)).cps.toList = 32 :: ((("from" : Str)).cps.toList ++ [32]) := by decide +kernel
theorem inter_cons (c : Nat) (x : List Nat) {W : List (List Nat)} (h : W ≠ []) : inter c (x :: W) = x ++ c :: inter c W := by
  cases W with
  | nil => exact absurd rfl h
  | cons y r => rfl
theorem inter_one (c : Nat) (x : List Nat) : inter c [x] = x := rfl
theorem words_ne {ts : List Trm} (h : GoodTs ts) : (wordsOf ts).map (fun y : Str => y.cps.toList) ≠ [] := fun z => wordsOf_ne h.lo (List.map_eq_nil_iff.mp z)
theorem said_join {r : RowD} (g : GoodR r) : saidOf r = Str.join ⟨#[32]⟩ (wordsR r) := by
  obtain ⟨so, nn, aa, ww, tt⟩ := r
  have h5 : so ≤ 5 := g.so
  have gt : GoodTs tt := g.ts
  have hc : so = 0 ∨ so = 1 ∨ so = 2 ∨ so = 3 ∨ so = 4 ∨ so = 5 := by omega
  apply strExt
  rw [join_codes]
  rcases hc with rfl | rfl | rfl | rfl | rfl | rfl
  · rw [said0 rfl]
    show (("let " : Str) ++ nn ++ " be " ++ textOf tt).cps.toList = inter 32 ((("let" : Str) :: nn :: "be" :: wordsOf tt).map (·.cps.toList))
    rw [strApp, strApp, strApp, text_codes, cd_let, cd_be, List.map_cons, List.map_cons, List.map_cons, inter_cons 32 _ (by simp), inter_cons 32 _ (by simp), inter_cons 32 _ (words_ne gt)]
    simp only [List.append_assoc, List.cons_append, List.nil_append]
  · rw [said1 rfl]
    show (("deed " : Str) ++ nn ++ " be " ++ textOf tt).cps.toList = inter 32 ((("deed" : Str) :: nn :: "be" :: wordsOf tt).map (·.cps.toList))
    rw [strApp, strApp, strApp, text_codes, cd_deed, cd_be, List.map_cons, List.map_cons, List.map_cons, inter_cons 32 _ (by simp), inter_cons 32 _ (by simp), inter_cons 32 _ (words_ne gt)]
    simp only [List.append_assoc, List.cons_append, List.nil_append]
  · rw [said2 rfl]
    show (("draw " : Str) ++ aa ++ " as " ++ nn).cps.toList = inter 32 (([("draw" : Str), aa, "as", nn]).map (·.cps.toList))
    rw [strApp, strApp, strApp, cd_draw, cd_as, List.map_cons, List.map_cons, List.map_cons, List.map_cons, List.map_nil, inter_cons 32 _ (by simp), inter_cons 32 _ (by simp), inter_cons 32 _ (by simp), inter_one]
    simp only [List.append_assoc, List.cons_append, List.nil_append]
  · rw [said3 rfl]
    show (("late " : Str) ++ aa ++ " as " ++ nn).cps.toList = inter 32 (([("late" : Str), aa, "as", nn]).map (·.cps.toList))
    rw [strApp, strApp, strApp, cd_late, cd_as, List.map_cons, List.map_cons, List.map_cons, List.map_cons, List.map_nil, inter_cons 32 _ (by simp), inter_cons 32 _ (by simp), inter_cons 32 _ (by simp), inter_one]
    simp only [List.append_assoc, List.cons_append, List.nil_append]
  · rw [said4 rfl]
    show (("take " : Str) ++ ww ++ " from " ++ aa ++ " as " ++ nn).cps.toList = inter 32 (([("take" : Str), ww, "from", aa, "as", nn]).map (·.cps.toList))
    rw [strApp, strApp, strApp, strApp, strApp, cd_take, cd_from, cd_as]
    rw [List.map_cons, List.map_cons, List.map_cons, List.map_cons, List.map_cons, List.map_cons, List.map_nil, inter_cons 32 _ (by simp), inter_cons 32 _ (by simp), inter_cons 32 _ (by simp), inter_cons 32 _ (by simp), inter_cons 32 _ (by simp), inter_one]
    simp only [List.append_assoc, List.cons_append, List.nil_append]
  · rw [said5 rfl]
    show (("need " : Str) ++ textOf tt).cps.toList = inter 32 ((("need" : Str) :: wordsOf tt).map (·.cps.toList))
    rw [strApp, text_codes, cd_need, List.map_cons, inter_cons 32 _ (words_ne gt)]
    simp only [List.append_assoc, List.cons_append, List.nil_append]
theorem said_split {r : RowD} (g : GoodR r) : Txt.split (saidOf r) (" " : Str) = wordsR r := by
  rw [said_join g, blank_eq]
  obtain ⟨so, nn, aa, ww, tt⟩ := r
  have h5 : so ≤ 5 := g.so
  have gt : GoodTs tt := g.ts
  have gw : IsNm ww := g.wd
  obtain ⟨ys, ga, ea⟩ := g.ad
  have ea : aa = dotted ys := ea
  have fa : 32 ∉ aa.cps.toList := by rw [ea]; exact free_ad ga
  have hc : so = 0 ∨ so = 1 ∨ so = 2 ∨ so = 3 ∨ so = 4 ∨ so = 5 := by omega
  refine split_join 32 _ ?_ fun y hy => ?_
  · rcases hc with rfl | rfl | rfl | rfl | rfl | rfl <;> exact List.cons_ne_nil _ _
  · have fn : so < 5 → 32 ∉ nn.cps.toList := fun k => free_nm (g.nm k)
    rcases hc with rfl | rfl | rfl | rfl | rfl | rfl
    · have hy : y ∈ (("let" : Str) :: nn :: "be" :: wordsOf tt) := hy
      rcases List.mem_cons.mp hy with rfl | hy
      · decide +kernel
      rcases List.mem_cons.mp hy with rfl | hy
      · exact fn (by decide)
      rcases List.mem_cons.mp hy with rfl | hy
      · decide +kernel
      · exact free_words gt hy
    · have hy : y ∈ (("deed" : Str) :: nn :: "be" :: wordsOf tt) := hy
      rcases List.mem_cons.mp hy with rfl | hy
      · decide +kernel
      rcases List.mem_cons.mp hy with rfl | hy
      · exact fn (by decide)
      rcases List.mem_cons.mp hy with rfl | hy
      · decide +kernel
      · exact free_words gt hy
    · have hy : y ∈ [("draw" : Str), aa, "as", nn] := hy
      simp only [List.mem_cons, List.not_mem_nil, or_false] at hy
      rcases hy with rfl | rfl | rfl | rfl
      · decide +kernel
      · exact fa
      · decide +kernel
      · exact fn (by decide)
    · have hy : y ∈ [("late" : Str), aa, "as", nn] := hy
      simp only [List.mem_cons, List.not_mem_nil, or_false] at hy
      rcases hy with rfl | rfl | rfl | rfl
      · decide +kernel
      · exact fa
      · decide +kernel
      · exact fn (by decide)
    · have hy : y ∈ [("take" : Str), ww, "from", aa, "as", nn] := hy
      simp only [List.mem_cons, List.not_mem_nil, or_false] at hy
      rcases hy with rfl | rfl | rfl | rfl | rfl | rfl
      · decide +kernel
      · exact free_nm gw
      · decide +kernel
      · exact fa
      · decide +kernel
      · exact fn (by decide)
    · have hy : y ∈ (("need" : Str) :: wordsOf tt) := hy
      rcases List.mem_cons.mp hy with rfl | hy
      · decide +kernel
      · exact free_words gt hy
theorem said_len {r : RowD} (g : GoodR r) : (saidOf r).length ≤ 1000 := by
  have e1 := g.nl
  have e2 := g.al
  have e3 := g.tl
  have e4 := g.wd.hi
  obtain ⟨so, nn, aa, ww, tt⟩ := r
  have h5 : so ≤ 5 := g.so
  have e1 : nn.length ≤ 8 := e1
  have e2 : aa.length ≤ 36 := e2
  have e3 : (textOf tt).length ≤ 480 := e3
  have e4 : ww.length ≤ 8 := e4
  have hc : so = 0 ∨ so = 1 ∨ so = 2 ∨ so = 3 ∨ so = 4 ∨ so = 5 := by omega
  rcases hc with rfl | rfl | rfl | rfl | rfl | rfl
  · rw [said0 rfl]; simp only [appLen, len_let, len_be]; omega
  · rw [said1 rfl]; simp only [appLen, len_deed, len_be]; omega
  · rw [said2 rfl]; simp only [appLen, len_draw, len_as]; omega
  · rw [said3 rfl]; simp only [appLen, len_late, len_as]; omega
  · rw [said4 rfl]; simp only [appLen, len_take, len_from, len_as]; omega
  · rw [said5 rfl]; simp only [appLen, len_need]; omega
theorem adB_good {ys : List Str} (h : GoodA ys) : (decide (((Txt.split (dotted ys) ("." : Str)).length : Int) ≤ 3) && (Txt.split (dotted ys) ("." : Str)).all nmB) = true := by
  rw [dotted_split ys h.lo h.nm, decide_eq_true (by have := h.hi; omega), Bool.true_and, List.all_eq_true]
  exact fun y hy => (h.nm y hy).nmB
end Mine

set_option maxHeartbeats 4000000
namespace En
open PySem PySem.Spec PyProof.Rows
section
variable {prog : Program} {w : World} {A : Around} {E : Value → Shared → Prop} {s : Shared}
theorem next_item {e j l : Addr} {i : Nat} {k : Int} {its : Array Value} {x old : Value} {Q : Option Value → Shared → Prop}
    (q1 : IsEnum s.heap e j k old) (q2 : s.heap.IsListIter j l i) (q3 : s.heap.IsList l its) (q4 : its[i]? = some x) (ne : e ≠ j)
    (kQ : ∀ h', IsEnumOut h' e j (k + 1) x s.heap.objs.size → h'.IsListIter j l (i + 1) → h'.get? s.heap.objs.size = some { cls := .type "tuple", data := .seq #[.int k s.toks, x] } →
      (∀ b o, b ≠ e → b ≠ j → s.heap.get? b = some o → h'.get? b = some o) → Q (some (.ref s.heap.objs.size)) { s with heap := h', toks := s.toks + 1 }) :
    wpAny (model prog w) A (pyNext (.ref e)) Q E s := by
  have ty : s.TypeIs (.ref e) "enumerate" := ⟨_, q1, rfl⟩
  unfold pyNext
  refine wpAny_bind (wpAny_attempt (wpAny_callSpecial?_slot (name := Str.ofString "__next__") ty F.slot_enumerate_next (wpAny_call_entry F.slot_enumerate_next ty F.entry_enumerate_next ?_ (F.args_enumerate_next_1 _))))
  obtain ⟨hp, g, d, tk, os⟩ := s
  show wpAny _ _ (field (.ref e) 2 >>= _) _ _ _
  refine wpAny_bind (wpAny_field q1 rfl (x := .ref j) rfl (wpAny_bind (wpAny_nextOf_list_item q2 q3 q4 fun h1 r1 z1 => ?_)))
  replace z1 : Heap.SameBut j hp h1 := z1
  have a1 : IsEnum h1 e j k old := (z1.2 e ne).trans q1
  show wpAny _ _ (field (.ref e) 3 >>= _) _ _ ⟨h1, g, d, tk, os⟩
  refine wpAny_bind (wpAny_field a1 rfl (x := rawInt k) rfl ?_)
  show wpAny _ _ (field (.ref e) 4 >>= _) _ _ ⟨h1, g, d, tk, os⟩
  refine wpAny_bind (wpAny_field a1 rfl (x := .none) rfl ?_)
  show wpAny _ _ (mkInt k >>= _) _ _ ⟨h1, g, d, tk, os⟩
  refine wpAny_bind (wpAny_mkInt ?_)
  show wpAny _ _ (setField (.ref e) 3 (rawInt (k + 1)) >>= _) _ _ ⟨h1, g, d, tk + 1, os⟩
  refine wpAny_bind (wpAny_setField_rec a1 (by simp) fun h2 a2 z2 => ?_)
  replace z2 : Heap.SameBut e h1 h2 := z2
  replace a2 : IsEnum h2 e j (k + 1) old := a2
  show wpAny _ _ (setField (.ref e) 4 .none >>= _) _ _ ⟨h2, g, d, tk + 1, os⟩
  refine wpAny_bind (wpAny_setField_rec a2 (by simp) fun h3 a3 z3 => ?_)
  replace z3 : Heap.SameBut e h2 h3 := z3
  replace a3 : IsEnum h3 e j (k + 1) old := a3
  show wpAny _ _ (newTuple [.int k tk, x] >>= _) _ _ ⟨h3, g, d, tk + 1, os⟩
  refine wpAny_bind (wpAny_newTuple ?_)
  have a4 : IsEnum (h3.push { cls := .type "tuple", data := .seq #[.int k tk, x] }) e j (k + 1) old := Heap.get?_push_of_some _ a3
  generalize hh : h3.push { cls := .type "tuple", data := .seq #[.int k tk, x] } = h4 at a4
  have sz : h3.objs.size = hp.objs.size := by rw [z3.1, z2.1, z1.1]
  have el : e < hp.objs.size := Heap.lt_size q1
  have t4 : h4.get? hp.objs.size = some { cls := .type "tuple", data := .seq #[.int k tk, x] } := by rw [← hh, ← sz]; exact Heap.get?_push_size _ rfl
  have k4 : ∀ b o, b ≠ e → b ≠ j → hp.get? b = some o → h4.get? b = some o := fun b o be bi hb => by
    rw [← hh]; exact Heap.get?_push_of_some _ (z3.extBut b o be (z2.extBut b o be (z1.extBut b o bi hb)))
  have r4 : h4.IsListIter j l (i + 1) := by
    rw [← hh]; obtain ⟨o, ho, r⟩ := (r1.extBut z2.extBut (Ne.symm ne)).extBut z3.extBut (Ne.symm ne); exact ⟨o, Heap.get?_push_of_some _ ho, r⟩
  show wpAny _ _ (Builtin.SmallTypes.ownedTupleIsFree (.ref e) >>= _) _ _ ⟨h4, g, d, tk + 1, os⟩
  rw [sz]
  clear hh a3 z3 a2 z2 a1 z1 r1 sz h3 h2 h1
  refine wpAny_bind ?_
  unfold Builtin.SmallTypes.ownedTupleIsFree
  refine wpAny_bind (wpAny_field a4 rfl (x := .none) rfl (wpAny_pure ?_))
  simp only [if_true]
  refine wpAny_bind (wpAny_rule (wpAny_bind (wpAny_field a4 rfl (x := old) rfl (wpAny_bind (wpAny_setField_rec a4 (by simp) fun h5 a5 z5 => ?_)))))
  replace z5 : Heap.SameBut e h4 h5 := z5
  replace a5 : IsEnum h5 e j (k + 1) x := a5
  show wpAny _ _ (Builtin.SmallTypes.ownedTupleHandOut (.ref e) (.ref hp.objs.size) >>= _) _ _ ⟨h5, g, d, tk + 1, os⟩
  refine wpAny_bind ?_
  unfold Builtin.SmallTypes.ownedTupleHandOut
  refine wpAny_bind (wpAny_setField_rec a5 (by simp) fun h6 a6 z6 => ?_)
  replace z6 : Heap.SameBut e h5 h6 := z6
  replace a6 : IsEnumOut h6 e j (k + 1) x hp.objs.size := a6
  refine wpAny_setField_rec a6 (by simp) fun h7 a7 z7 => ?_
  replace z7 : Heap.SameBut e h6 h7 := z7
  replace a7 : IsEnumOut h7 e j (k + 1) x hp.objs.size := a7
  refine wpAny_bind (wpAny_letGo (wpAny_pure ⟨_, rfl, wpAny_pure (kQ h7 a7 ?_ ?_ ?_)⟩))
  · exact ((r4.extBut z5.extBut (Ne.symm ne)).extBut z6.extBut (Ne.symm ne)).extBut z7.extBut (Ne.symm ne)
  · exact z7.extBut _ _ (Nat.ne_of_gt el) (z6.extBut _ _ (Nat.ne_of_gt el) (z5.extBut _ _ (Nat.ne_of_gt el) t4))
  · exact fun b o be bi hb => z7.extBut b o be (z6.extBut b o be (z5.extBut b o be (k4 b o be bi hb)))
theorem next_end {e j l : Addr} {i : Nat} {k : Int} {its : Array Value} {old : Value} {Q : Option Value → Shared → Prop} (hh : A.handled = none)
    (q1 : IsEnum s.heap e j k old) (q2 : s.heap.IsListIter j l i) (q3 : s.heap.IsList l its) (q4 : its[i]? = none)
    (kQ : ∀ h', Heap.ExtBut j s.heap h' → Q none { s with heap := h' }) : wpAny (model prog w) A (pyNext (.ref e)) Q E s := by
  have ty : s.TypeIs (.ref e) "enumerate" := ⟨_, q1, rfl⟩
  unfold pyNext
  refine wpAny_bind (wpAny_attempt (wpAny_callSpecial?_slot (name := Str.ofString "__next__") ty F.slot_enumerate_next (wpAny_call_entry F.slot_enumerate_next ty F.entry_enumerate_next ?_ (F.args_enumerate_next_1 _))))
  show wpAny _ _ (field (.ref e) 2 >>= _) _ _ _
  refine wpAny_bind (wpAny_field q1 rfl (x := .ref j) rfl (wpAny_bind (wpAny_nextOf_list_end hh q2 q3 q4 fun h' x hx ho => ?_)))
  obtain ⟨o, ho, hc⟩ := ho
  exact wpAny_bind (wpAny_isInstance (T := "StopIteration") (b := true) ⟨o, ho, hc⟩ isSubtype_stop (wpAny_pure (kQ _ hx)))
end
end En
namespace L2
open PySem PySem.Spec PyProof.Rows
noncomputable def Ite (K : PySem.W.Frag) (a : Addr) (k : Int) : It :=
  ⟨fun i H => ∃ xs x, SqL K H a xs ∧ xs[i]? = some x, fun i H v H' => ∃ p x, v = .ref p ∧ H p = none ∧ (∀ xs, SqL K H a xs → xs[i]? = some x) ∧ H' = upd H p (.tup [.int (k + i), x]), fun i H => ∃ xs, SqL K H a xs ∧ xs.length ≤ i⟩
theorem turn_enum {P : Program} {w : World} {K : PySem.W.Frag} {elts : List Expr} {x1 : Nat} {tpos : Pos} (a e j : Addr) (k : Int) (ne : e ≠ j) :
    Turn P w K (.Tuple elts x1 tpos) (Ite K a k) [e, j] e (fun i h => (∃ old, IsEnum h e j (k + i) old) ∧ h.IsListIter j a i) where
  mem := .head _
  obj := fun i h st c hc => by
    obtain ⟨⟨old, hz⟩, h1⟩ := st
    cases hc with
    | head => exact ⟨_, hz, fun v z => by cases z⟩
    | tail _ hc => cases hc with
      | head => obtain ⟨o, e, _, d⟩ := h1; exact ⟨o, e, fun v z => by rw [d] at z; cases z⟩
      | tail _ hc => cases hc
  keep := fun i h h' st k => by
    obtain ⟨⟨old, hz⟩, h1⟩ := st
    exact ⟨⟨old, k e (.head _) _ hz⟩, h1.at fun o e => k j (.tail _ (.head _)) o e⟩
  item := by
    intro X hP hw hK hc i pins s σ H E I hf st hg
    subst hP hw hK
    obtain ⟨xs, x, hq, hx⟩ := hg
    obtain ⟨⟨old, hz⟩, h1⟩ := st
    obtain ⟨us, rv, p, hsz⟩ := I.list hq
    obtain ⟨u, hu, ru⟩ := rv.get hx
    have lt : ∀ {c o}, s.heap.get? c = some o → c ≠ s.heap.objs.size := fun e => Nat.ne_of_lt (Heap.lt_size e)
    refine En.next_item hz h1 p.isList (x := u) (by simpa using hu) ne fun h' a1 a2 a3 hk => ?_
    refine ⟨_, rfl, wpAny_letOwnedTupleGo_enum a1 fun h'' hz' hs' => ?_⟩
    have hfr : H s.heap.objs.size = none := I.hok.fresh (Nat.le_refl _)
    have hT : h''.get? s.heap.objs.size = some { cls := .type "tuple", data := .seq #[.int (k + i) s.toks, u] } := (hs'.2 _ (Ne.symm (lt hz))).trans a3
    have kk : ∀ c o, c ≠ e → c ≠ j → s.heap.get? c = some o → h''.get? c = some o := fun c o q1 q2 e' => (hs'.2 c q1).trans (hk c o q1 q2 e')
    have fe := hf e (.head _)
    have fj := hf j (.tail _ (.head _))
    have hch : ∀ c, c ∉ [e, j] → c ≠ e ∧ c ≠ j := fun c hc => ⟨fun z => hc (z ▸ .head _), fun z => hc (z ▸ .tail _ (.head _))⟩
    have trk : ∀ c o, H c = some o → c ≠ e ∧ c ≠ j := fun c o q => ⟨(fun z => by rw [z, fe.1] at q; cases q), (fun z => by rw [z, fj.1] at q; cases q)⟩
    have I1 : Inv X pins σ (upd H s.heap.objs.size (.tup [.int (k + i), x])) { s with heap := h'', toks := s.toks + 1 } := by
      refine I.step (g' := s.gens) (d' := s.drawn) (t' := s.toks + 1) (ch := [e, j]) (fun c hc => ?_) (fun c o _ _ hc e' _ => ?_) (fun c o _ _ hc e' _ => ?_) (fun c o hc e' n => ?_) (fun c o hc e' => ?_) (fun c q e' => ?_) (fun c o q e' => ?_) (fun c q e' => ?_) (fun m hm => ?_) (fun c o e' => ?_) I.bare
      · cases hc with
        | head => exact ⟨fe.2.2.2.1, fe.2.1, fe.2.2.2.2.1, fe.2.2.2.2.2⟩
        | tail _ hc => cases hc with
          | head => exact ⟨fj.2.2.2.1, fj.2.1, fj.2.2.2.2.1, fj.2.2.2.2.2⟩
          | tail _ hc => cases hc
      · exact kk c o (hch c hc).1 (hch c hc).2 e'
      · exact ⟨o.slots, kk c o (hch c hc).1 (hch c hc).2 e'⟩
      · rw [upd_ne (lt e')]; exact n
      · exact ⟨o, kk c o (hch c hc).1 (hch c hc).2 e'⟩
      · rw [upd_ne (ne_of_none e' hfr)]; exact e'
      · rw [upd_ne (ne_of_none e' hfr)]; exact e'
      · exact ⟨#[], by rw [upd_ne (ne_of_none e' hfr), e']; simp⟩
      · obtain ⟨o, es, ep, ho, r⟩ := hm
        exact ⟨o, es, ep, kk _ o (Ne.symm fe.2.1) (Ne.symm fj.2.1) ho, r⟩
      · by_cases hcT : c = s.heap.objs.size
        · subst hcT
          rw [upd_same] at e'
          cases e'
          exact ⟨by show 2 ≤ sizeLine; decide, [.int (k + i) s.toks, u], .cons ⟨_, rfl⟩ (.cons ru .nil), ⟨_, hT, rfl, _, rfl⟩⟩
        · rw [upd_ne hcT] at e'
          obtain ⟨q1, q2⟩ := trk c o e'
          refine (I.hok c o e').stay (fun d w' hd q => ?_) (fun d q => ?_) fun d w' q => ?_
          · have : d ≠ e ∧ d ≠ j := by
              rcases hd with rfl | hd
              · exact ⟨q1, q2⟩
              · exact trk d _ hd
            exact kk d w' this.1 this.2 q
          · rw [upd_ne (ne_of_none q hfr)]; exact q
          · rw [upd_ne (ne_of_none q hfr)]; exact q
    refine ⟨.ref s.heap.objs.size, _, I1, rfl, ⟨s.heap.objs.size, x, rfl, hfr, fun zs hq' => by rw [I.list_inj hq' hq]; exact hx, rfl⟩, ?_, fun c hc => ?_⟩
    · refine ⟨⟨u, ?_⟩, a2.at fun o q => (hs'.2 j (Ne.symm ne)).trans q⟩
      have := hz'
      rwa [show k + (i : Int) + 1 = k + ((i + 1 : Nat) : Int) from by omega] at this
    · have hc0 := (hf c hc).1
      have hne : c ≠ s.heap.objs.size := by
        cases hc with
        | head => exact lt hz
        | tail _ hc => cases hc with
          | head => obtain ⟨_, q, _⟩ := h1; exact lt q
          | tail _ hc => cases hc
      rw [upd_ne hne]; exact hc0
  done := by
    intro X hP hw hK hc i pins s σ H E I hf st hg
    subst hP hw hK
    obtain ⟨xs, hq, hend⟩ := hg
    obtain ⟨⟨old, hz⟩, h1⟩ := st
    obtain ⟨us, rv, p, hsz⟩ := I.list hq
    have l1 := rv.length
    refine En.next_end (I.ok.hd hc) hz h1 p.isList (by simp; omega) fun h' hk => ⟨rfl, ?_⟩
    have fj := hf j (.tail _ (.head _))
    exact I.turned (t' := s.toks) (fun b o hb q => hk b o hb q) fj.1 fj.2.1 fj.2.2.2.1 fj.2.2.2.2.1 fj.2.2.2.2.2
  self := fun A i s Q E st h => by
    obtain ⟨⟨old, hz⟩, _⟩ := st
    exact wpAny_pyIter_enum hz h
section
variable {X : Cx} {K : PySem.W.Frag}
noncomputable def iEnum (K : PySem.W.Frag) (k : Int) (ta : TA) : TI := fun σ H R => ta σ H fun vs H1 => ∃ a, vs = [.ref a] ∧ (∃ xs, SqL K H1 a xs) ∧ R (Ite K a k) H1
theorem pi_enum {a : Expr} {ta : TA} {p pos : Pos} {elts : List Expr} {x1 : Nat} {tpos : Pos} (hK : X.K = K) (hg : Gl X "enumerate") (hm : X.mg "enumerate" = none) (ha : PA X [a] ta) (hs : starEach [a] X.env = [(false, eval a X.env)] := by rfl) :
    PI X (.Tuple elts x1 tpos) (.Call (.Name "enumerate" p) [a] [] pos) (iEnum K 0 ta) := by
  subst hK
  intro pins s σ H R I h
  refine Call_ (ld_blt I hg hm boot_enumerate (PyProof.Rows.callWith_type1 (thn (ha pos pins s σ H _ I h) fun us s1 ⟨vs, H1, I1, r1, q1⟩ => ?_) (by rw [hs]; rfl) rfl))
  obtain ⟨a1, e, ⟨xs, hx⟩, q⟩ := q1
  subst e
  obtain ⟨u, rfl, rx⟩ := vals1 r1
  cases rx
  obtain ⟨vs1, _, p1, _⟩ := I1.list hx
  refine call_enumerate_list p1.isList fun h' z1 z2 z3 zk => ?_
  refine wpAny_pyIter_enum z1 ?_
  have I2 : Inv X pins σ H1 { s1 with heap := h' } := I1.kept (t' := s1.toks) zk
  refine ⟨_, [s1.heap.objs.size + 1, s1.heap.objs.size], _, _, H1, rfl, I2, turn_enum a1 _ _ 0 (Nat.succ_ne_self _), ⟨⟨_, z1⟩, z2⟩, fun c hc => ?_, q⟩
  have hle : s1.heap.objs.size ≤ c := by
    cases hc with
    | head => exact Nat.le_succ _
    | tail _ hc => cases hc with
      | head => exact Nat.le_refl _
      | tail _ hc => cases hc
  exact I1.fpOk hle (I1.hok.fresh hle)
end
end L2

set_option maxHeartbeats 4000000
namespace En
open PySem PySem.Spec PyProof.Rows
open AutoSeq1 (wpAny_loadPart')
section
variable {prog : Program} {w : World} {A : Around} {E : Value → Shared → Prop} {s : Shared}
theorem init_kw {T nw : String} {self : Value} {rest : List Value} {x : Str × Value} {kw : List (Str × Value)} (hl : typeLookup (.type T) "__init__" = pure (some (.builtin "object.__init__")))
    (hm : Bind.madeBy (.type T) = pure (some nw)) (hn : (some nw != some "object.__new__") = true) : Meets (Builtin.«object.__init__» ⟨self :: rest, x :: kw⟩) (fun _ R s => s.TypeIs self T ∧ R (.ok (.ret .none)) s) := by
  refine Meets.of_wp fun prog w A R s hs => ?_
  obtain ⟨hT, hq⟩ := hs
  cases rest with
  | nil =>
    repeat (any_goals (first | assumption | wp_step))
    exact ⟨_, rfl, hq⟩
  | cons a rest =>
    repeat (any_goals (first | assumption | wp_step))
    exact ⟨_, rfl, hq⟩
theorem type_kw {T nw : String} {Bn : Builtin} {args : List Value} {x : Str × Value} {kw : List (Str × Value)} {S : PySem.Spec} {Q : Value → Shared → Prop} (ft : TypeCalled T nw "object.__init__")
    (hn : (some nw != some "object.__new__") = true) (c1 : checkTypeCall T ⟨args, x :: kw⟩ = pure ()) (c2 : checkBuiltinCall nw ⟨.type T :: args, x :: kw⟩ = pure ())
    (ok : ∀ obj, argsOk "object.__init__" ⟨obj :: args, x :: kw⟩) (en : entryFor table nw = some Bn) (g : Meets (Bn ⟨.type T :: args, x :: kw⟩) S)
    (h : S A.in1 (wants (fun obj s₁ => s₁.TypeIs obj T ∧ Q obj s₁) E) s) : wpAny (model prog w) A (call (.type T) args (x :: kw)) Q E s := by
  obtain ⟨c, tl, mro⟩ := ft.mro
  have made := ft.made
  have sub := ft.sub
  refine wpAny_call (codeAny_of_tree ?_)
  show wpAny _ _ (callAny (.type T) _) _ _ _
  refine wpAny_pure ⟨Code.quiet_builtin _ (by decide +kernel), codeAny_builtin F.entry_type_call ?_⟩
  rw [Around.under_plain (weight_type_call_type T args (x :: kw)) (units_type_call_type T args (x :: kw))]
  have n1 := ft.notType
  have n2 := ft.canCreate
  repeat (any_goals (first | assumption | wp_step))
  refine codeAny_mono (codeAny_call_builtin ft.plain en (wpAny_of_eq c2 (g prog w A.in1 _ s h))) fun r s1 hr => ?_
  cases r with
  | error e => exact hr
  | ok fl =>
    cases fl with
    | ret obj =>
      obtain ⟨hT, hq⟩ := hr
      have li := ft.init.lookup
      have bi := ft.init.bind obj
      repeat (any_goals (first | assumption | wp_step))
      refine codeAny_mono (codeAny_call_builtin ft.init.plain F.entry_object_init (ft.init.check _ _ _ _ _ _ _ _ hT (ok obj) (init_kw ft.init.lookup ft.made hn prog w A.in1 (wants (fun r s₂ => r = .none ∧ Q obj s₂) E) s1 ⟨hT, rfl, hq⟩))) fun r2 s2 hr2 => ?_
      cases r2 with
      | error e => exact hr2
      | ok fl2 =>
        cases fl2 with
        | ret r =>
          obtain ⟨rfl, hq2⟩ := hr2
          repeat (any_goals (first | assumption | wp_step))
        | _ => exact hr2.elim
    | _ => exact hr.elim
theorem enum_new (l : Addr) (items : Array Value) (n : Nat) (dct : Option Addr) (sl : Array (Option Value)) (t : Tok) :
    Meets (Builtin.«enumerate.__new__» ⟨[.type "enumerate", .ref l], [("start", .int 1 t)]⟩) (fun _ R s => s.heap.get? l = some { cls := .type "list", dict := dct, data := .seq items n, slots := sl } ∧
      R (.ok (.ret (.ref (s.heap.push { cls := .type "list_iterator", data := .fields #[.ref l, .int 0 0] }).objs.size)))
        { s with heap := (s.heap.push { cls := .type "list_iterator", data := .fields #[.ref l, .int 0 0] }).push { cls := .type "enumerate", data := .fields #[.none, .bool false, .ref s.heap.objs.size, rawInt 1, .none, .none] } }) :=
  .of_wp fun prog w A R s h => by
    obtain ⟨hp, g, d, tk, os⟩ := s; obtain ⟨hl, h⟩ := h
    have sb := sub_enumerate
    have hL : Heap.IsList (Shared.heap ⟨hp, g, d, tk, os⟩) l items := ⟨_, hl, rfl, n, rfl⟩
    wp_walk using wpAny_loadPart' hl
    refine wpAny_stack_any fun st => wpAny_pure ?_
    split
    · rename_i c _ _ _ _ _
      cases (c == Value.type "enumerate")
      · wp_walk using wpAny_loadPart' hl, wpAny_pyIter_list hL
        exact ⟨_, rfl, h⟩
      · wp_walk using wpAny_loadPart' hl, wpAny_pyIter_list hL
        exact ⟨_, rfl, h⟩
    · wp_walk using wpAny_loadPart' hl, wpAny_pyIter_list hL
      exact ⟨_, rfl, h⟩
theorem call_enum1 {l : Addr} {items : Array Value} {t : Tok} {Q : Value → Shared → Prop} (hL : s.heap.IsList l items)
    (h : ∀ h', IsEnum h' (s.heap.objs.size + 1) s.heap.objs.size 1 .none → h'.IsListIter s.heap.objs.size l 0 → (∀ b o, s.heap.get? b = some o → h'.get? b = some o) → Q (.ref (s.heap.objs.size + 1)) { s with heap := h' }) :
    wpAny (model prog w) A (call (.type "enumerate") [.ref l] [("start", .int 1 t)]) Q E s := by
  obtain ⟨⟨c, dct, dt, sl⟩, hl, hc, n, hd⟩ := hL
  replace hc : c = .type "list" := hc
  replace hd : dt = .seq items n := hd
  subst hc hd
  refine type_kw F.called_enumerate (by decide) (by kernel_rfl) (by kernel_rfl) (fun obj => by unfold argsOk; kernel_rfl) F.entry_enumerate_new (enum_new l items n dct sl t) ⟨hl, ?_⟩
  have hz : (s.heap.push { cls := .type "list_iterator", data := .fields #[.ref l, .int 0 0] }).objs.size = s.heap.objs.size + 1 := Heap.size_push ..
  show _ ∧ _
  rw [hz]
  have he : IsEnum ((s.heap.push { cls := .type "list_iterator", data := .fields #[.ref l, .int 0 0] }).push { cls := .type "enumerate", data := .fields #[.none, .bool false, .ref s.heap.objs.size, rawInt 1, .none, .none] }) (s.heap.objs.size + 1) s.heap.objs.size 1 .none := by
    have z := Heap.get?_push_size (s.heap.push { cls := .type "list_iterator", data := .fields #[.ref l, .int 0 0] }) (o := { cls := .type "enumerate", data := .fields #[.none, .bool false, .ref s.heap.objs.size, rawInt 1, .none, .none] }) rfl
    rw [hz] at z; exact z
  exact ⟨⟨_, he, rfl⟩, h _ he ⟨_, Heap.get?_push_of_some _ (Heap.get?_push_size _ rfl), rfl, rfl⟩ fun b o x => Heap.get?_push_of_some _ (Heap.get?_push_of_some _ x)⟩
theorem with_kw {M : Model} {pos : Pos} {T : String} {args : List (Bool × Sem Value)} {ks : List (Option Str × Sem Value)} {Q : Value → Shared → Prop} (hp : args.any (·.1) = false) (hk : ks.any (·.1.isNone) = false)
    (h : wpAny M A (evalArgs (.type T) true args ks) (fun a s₁ => wpAny M A (call (.type T) a.pos a.kw) Q E s₁) E s) : wpAny M A (callWith pos (.type T) [] args ks) Q E s := by
  unfold callWith
  refine wpAny_bind (wpAny_holding (wpAny_mono h (fun a s1 z => wpAny_bind (wpAny_standAt ?_)) fun _ _ x => x))
  simp only [hp, hk, Bool.or_false]
  exact wpAny_bind (wpAny_pure (wpAny_bind (wpAny_mono z (fun r s2 y => wpAny_bind (wpAny_holding (wpAny_point (wpAny_pure y)))) fun _ _ x => x)))
end
end En
namespace L2
open PySem PySem.Spec PyProof.Rows
section
variable {X : Cx} {K : PySem.W.Frag}
theorem pi_enum1 {a : Expr} {ta : TA} {p pos kp cp : Pos} {n : Nat} {elts : List Expr} {x1 : Nat} {tpos : Pos} (hK : X.K = K) (hg : Gl X "enumerate") (hm : X.mg "enumerate" = none) (ha : PA X [a] ta) (hs : starEach [a] X.env = [(false, eval a X.env)] := by rfl) :
    PI X (.Tuple elts x1 tpos) (.Call (.Name "enumerate" p) [a] [⟨some "start", .Constant (.int 1) n cp, kp⟩] pos) (iEnum K 1 ta) := by
  subst hK
  intro pins s σ H R I h
  have he : backTo pos (starEach [a] X.env) = (false, eval a X.env) :: backTo pos [] := by rw [hs]; rfl
  refine wpAny_Call_Name_kw (ld_blt I hg hm boot_enumerate (En.with_kw (by rw [he]; rfl) rfl ?_))
  rw [he]
  refine evalArgs_kwB rfl ?_
  rw [← he]
  refine thn (ha pos pins s σ H _ I h) fun us s1 ⟨vs, H1, I1, r1, q1⟩ => kws_cons (thn (pe_int pins s1 σ H1 (fun v H2 => v = .int 1 ∧ H2 = H1) I1 ⟨rfl, rfl⟩) fun kv s2 ⟨y, H2, I2, ry, ey, eH⟩ => kws_nil ?_)
  subst ey eH
  obtain ⟨tk, rfl⟩ := ry
  obtain ⟨a1, e, ⟨xs, hx⟩, q⟩ := q1
  subst e
  obtain ⟨u, rfl, rx⟩ := vals1 r1
  cases rx
  obtain ⟨vs1, _, p1, _⟩ := I2.list hx
  show wpAny _ _ (call (.type "enumerate") [.ref a1] [("start", .int 1 tk)]) _ _ _
  refine En.call_enum1 p1.isList fun h' z1 z2 zk => ?_
  refine wpAny_pyIter_enum z1 ?_
  have I3 : Inv X pins σ H2 { s2 with heap := h' } := I2.kept (t' := s2.toks) zk
  refine ⟨_, [s2.heap.objs.size + 1, s2.heap.objs.size], _, _, H2, rfl, I3, turn_enum a1 _ _ 1 (Nat.succ_ne_self _), ⟨⟨_, z1⟩, z2⟩, fun c hc => ?_, q⟩
  have hle : s2.heap.objs.size ≤ c := by
    cases hc with
    | head => exact Nat.le_succ _
    | tail _ hc => cases hc with
      | head => exact Nat.le_refl _
      | tail _ hc => cases hc
  exact I2.fpOk hle (I2.hok.fresh hle)
end
end L2

set_option maxHeartbeats 4000000
namespace L2
open PySem PySem.Spec PyProof.Rows
theorem for_enum {K : PySem.W.Frag} {a : Addr} {k : Int} {xs : List V} {g : TG} {tb : TS} {D : Ends} {σ : St} {H : Hp} (Pv : Nat → St → Hp → Prop) (h0 : Pv 0 σ H) (hl : ∀ i σ H, i ≤ xs.length → Pv i σ H → SqL K H a xs)
    (hs : ∀ (i : Nat) x p σ H, xs[i]? = some x → Pv i σ H → H p = none → g (.ref p) σ (upd H p (.tup [.int (k + i), x])) fun σ2 H2 => tb { D with nx := Pv (i + 1), ct := Pv (i + 1), bk := D.nx } σ2 H2) (hd : ∀ σ H, Pv xs.length σ H → D.nx σ H) :
    ∃ W : Nat → Nat → St → Hp → Prop, (∃ m, W 0 m σ H) ∧ ∀ i m σ H, W i m σ H →
      ((Ite K a k).stop i H ∧ D.nx σ H) ∨ ((Ite K a k).go i H ∧ ∃ N : St → Hp → Prop, (∀ σ' H', N σ' H' → ∃ m', m' < m ∧ W (i + 1) m' σ' H') ∧ ∀ x H', (Ite K a k).yld i H x H' → g x σ H' fun σ2 H2 => tb { D with nx := N, ct := N, bk := D.nx } σ2 H2) := by
  refine ⟨fun i m σ H => m = xs.length - i ∧ i ≤ xs.length ∧ Pv i σ H, ⟨xs.length, by simp, Nat.zero_le _, h0⟩, ?_⟩
  rintro i m σ H ⟨rfl, hi, p⟩
  have q := hl i σ H hi p
  by_cases hlt : i < xs.length
  · refine .inr ⟨⟨xs, xs[i], q, by simp [hlt]⟩, Pv (i + 1), fun σ' H' p' => ⟨xs.length - (i + 1), by omega, rfl, hlt, p'⟩, fun x H' y => ?_⟩
    obtain ⟨p0, x0, rfl, hp, hx, rfl⟩ := y
    exact hs i x0 p0 σ _ (hx xs q) p hp
  · have e : i = xs.length := by omega
    subst e
    exact .inl ⟨⟨xs, q, Nat.le_refl _⟩, hd σ H p⟩
theorem comp_listFI {K : PySem.W.Frag} {a : Addr} {xs : List V} {tf : TT} {te : TE} {τ0 : St} {H : Hp} {Fin : List V → Hp → Prop} (p : Nat → Bool) (f : Nat → V) (hn : xs.length ≤ sizeLine) (hl : SqL K H a xs)
    (htf : ∀ (i : Nat) x H' (Q : Bool → Hp → Prop), xs[i]? = some x → Same H H' → (∀ H'', Same H' H'' → Q (p i) H'') → tf (τ0.set 0 (some x)) H' Q)
    (hte : ∀ (i : Nat) x H' (Q : VK), xs[i]? = some x → Same H H' → (∀ H'', Same H' H'' → Q (f i) H'') → te (τ0.set 0 (some x)) H' Q)
    (hfin : ∀ H', Same H H' → Fin (((List.range xs.length).filter p).map f) H') : CompW (gName 0) tf te (Itl K a) τ0 H Fin := by
  refine ⟨fun i m τ ys H' => m = xs.length - i ∧ i ≤ xs.length ∧ ys = ((List.range i).filter p).map f ∧ Same H H' ∧ ∃ v, τ = τ0.set 0 v ∨ τ = τ0, ⟨xs.length, rfl, Nat.zero_le _, rfl, Same.refl _, none, .inr rfl⟩, ?_⟩
  rintro i m τ ys H' ⟨rfl, hi, rfl, sm, v, hτ⟩
  by_cases hlt : i < xs.length
  · have hx : xs[i]? = some xs[i] := by simp [hlt]
    refine .inr ⟨⟨xs, xs[i], sm.seq hl, hx⟩, fun x H'' y => ?_⟩
    obtain ⟨rfl, y⟩ := y
    have ex : x = xs[i] := by have := y xs (sm.seq hl); rw [hx] at this; exact (Option.some.inj this).symm
    subst ex
    have e5 : τ.set 0 (some xs[i]) = τ0.set 0 (some xs[i]) := by
      rcases hτ with rfl | rfl
      · rw [List.set_set]
      · rfl
    show tf (τ.set 0 (some xs[i])) _ _
    rw [e5]
    refine htf i _ _ _ hx sm fun H3 s3 => ?_
    have fe : (List.range (i + 1)).filter p = (List.range i).filter p ++ (if p i = true then [i] else []) := by
      rw [List.range_succ, List.filter_append]
      by_cases h : p i = true
      · rw [if_pos h, List.filter_cons_of_pos h, List.filter_nil]
      · rw [if_neg h, List.filter_cons_of_neg h, List.filter_nil]
    cases hp : p i with
    | true =>
      dsimp only
      rw [if_pos rfl]
      refine hte i _ _ _ hx (sm.trans s3) fun H4 s4 => ?_
      refine ⟨?_, xs.length - (i + 1), by omega, rfl, hlt, ?_, sm.trans (s3.trans s4), _, .inl rfl⟩
      · rw [List.length_map]
        have := List.length_filter_le p (List.range i)
        rw [List.length_range] at this
        omega
      · rw [fe, if_pos hp, List.map_append]; rfl
    | false =>
      dsimp only
      refine ⟨xs.length - (i + 1), by omega, rfl, hlt, ?_, sm.trans s3, _, .inl rfl⟩
      rw [fe, if_neg (by rw [hp]; exact Bool.false_ne_true), List.append_nil]
  · have e : i = xs.length := by omega
    subst e
    exact .inl ⟨⟨xs, sm.seq hl, Nat.le_refl _⟩, hfin H' sm⟩
section
variable {X : Cx} {e : Expr} {te : TE} {pos : Pos}
noncomputable def strsOf : List Expr → Option (List Str)
  | [] => some []
  | .Constant (.str x) _ _ :: r => (strsOf r).map (x :: ·)
  | _ => none
theorem qa_strs : ∀ {es : List Expr} {xs : List Str}, strsOf es = some xs → QA X es (fun _ H Q => Q (xs.map V.str) H)
  | [], xs, h => by
    cases h
    exact ⟨pa_nil⟩
  | e :: es, xs, h => by
    unfold strsOf at h
    split at h
    · rename_i he; cases he
    · rename_i x _ _ r he
      cases he
      obtain ⟨ys, hy, rfl⟩ := Option.map_eq_some_iff.mp h
      exact ⟨pa_cons pe_str (qa_strs hy).h⟩
    · cases h
theorem op_notInK {K : PySem.W.Frag} (h : X.K = K) : OpR X (compareOp .NotIn) (rIn K true) := by subst h; exact op_notIn_seq
theorem qs_retQ (he : QE X e te) : QS X (.Return (some e) pos) (tRet te) := ⟨ps_ret he.h⟩
theorem qe_of (h : PE X e te) : QE X e te := ⟨h⟩
end
end L2

set_option maxHeartbeats 4000000
namespace L2
open PySem PySem.Spec PyProof.Rows
section
variable {X : Cx}
theorem call_list_ofK {K : PySem.W.Frag} (h : X.K = K) : CallR X (.type "list") (fun xs H Q => ∃ p ys, xs = [.ref p] ∧ (SqL K H p ys ∨ SqT K H p ys) ∧ ∀ l, H l = none → Q (.ref l) (upd H l (.lst ys))) := by subst h; exact call_list_of
end
theorem cut_to (xs : List V) (k : Nat) : cutV xs none (some (k : Int)) = xs.take k := by
  unfold cutV
  rw [HT.sIx_none, HT.sIx_nat, List.drop_zero, Nat.sub_zero]
  by_cases h : k ≤ xs.length
  · rw [Nat.min_eq_left h]
  · rw [Nat.min_eq_right (by omega), List.take_length, List.take_of_length_le (by omega)]
theorem vals_of {xs : List V} {n : Nat} (f : Nat → V) (hl : xs.length = n) (h : ∀ (i : Nat) v, xs[i]? = some v → v = f i) : xs = (List.range n).map f := by
  apply List.ext_getElem
  · rw [List.length_map, List.length_range, hl]
  · intro i h1 h2
    rw [h i _ (List.getElem?_eq_getElem h1)]
    simp
theorem nodup_len {α : Type} [DecidableEq α] : ∀ (as bs : List α), as.Nodup → (∀ x ∈ as, x ∈ bs) → as.length ≤ bs.length
  | [], bs, _, _ => Nat.zero_le _
  | a :: as, bs, h, hs => by
    have h2 := List.nodup_cons.mp h
    have ha := hs a (by simp)
    have h3 := nodup_len as (bs.erase a) h2.2 fun x hx => by
      have hne : x ≠ a := fun e => h2.1 (by rw [← e]; exact hx)
      exact (List.mem_erase_of_ne hne).mpr (hs x (List.mem_cons_of_mem _ hx))
    rw [List.length_erase_of_mem ha] at h3
    have h4 : 0 < bs.length := List.length_pos_of_mem ha
    rw [List.length_cons]
    omega
end L2
namespace Mine
open PySem PySem.Spec PyProof.Rows L2 PySem.Builtin PySem.Builtin.Str
noncomputable def wdOf (ks : List Int) : Str := ⟨(ks.map fun k => 97 + k.toNat).toArray⟩
noncomputable def In26 (ks : List Int) : Prop := ∀ k ∈ ks, 0 ≤ k ∧ k < 26
theorem wd_codes (ks : List Int) : (wdOf ks).cps.toList = ks.map fun k => 97 + k.toNat := by simp [wdOf]
theorem wd_len (ks : List Int) : (wdOf ks).length = ks.length := by simp [wdOf, Str.length]
theorem wd_nm {ks : List Int} (h1 : 1 ≤ ks.length) (h8 : ks.length ≤ 8) (h : In26 ks) : IsNm (wdOf ks) := ⟨by rw [wd_len]; exact h1, by rw [wd_len]; exact h8, fun n hn => by
  rw [wd_codes] at hn
  obtain ⟨k, hk, rfl⟩ := List.mem_map.mp hn
  have := h k hk
  omega⟩
theorem wd_at {ks ls : List Int} (e : wdOf ks = wdOf ls) (hk : In26 ks) (hl : In26 ls) {i : Nat} {a b : Int} (ha : ks[i]? = some a) (hb : ls[i]? = some b) : a = b := by
  have e2 : (wdOf ks).cps.toList[i]? = (wdOf ls).cps.toList[i]? := by rw [e]
  rw [wd_codes, wd_codes, List.getElem?_map, List.getElem?_map, ha, hb] at e2
  have e3 : 97 + a.toNat = 97 + b.toNat := Option.some.inj e2
  have h1 := hk a (List.mem_of_getElem? ha)
  have h2 := hl b (List.mem_of_getElem? hb)
  omega
theorem wd_join (ks : List Int) : Txt.join ("" : Str) (ks.map fun k => (⟨#[97 + k.toNat]⟩ : Str)) = wdOf ks := by
  rw [empty_eq]
  show glued _ _ = _
  rw [StrLaws.glued_eq_join]
  apply strExt
  rw [join_nil_codes, List.map_map, wd_codes]
  induction ks with
  | nil => rfl
  | cons a r ih => simp only [List.map_cons, List.flatten_cons, ih] <;> rfl
theorem ints_of {xs : List V} (h : ∀ (i : Nat) v, xs[i]? = some v → ∃ b : Int, v = V.int b ∧ 0 ≤ b ∧ b < 26) : ∃ bs : List Int, bs.length = xs.length ∧ xs = bs.map V.int ∧ In26 bs := by
  obtain ⟨bs, hl, hb⟩ := choose_list (fun _ v b => v = V.int b ∧ 0 ≤ b ∧ b < 26) xs 0 (fun i v e => h i v e)
  have em : xs = bs.map V.int := by
    apply List.ext_getElem?
    intro i
    rw [List.getElem?_map]
    cases e : xs[i]? with
    | none =>
      have e2 : bs[i]? = none := by
        rw [List.getElem?_eq_none_iff] at e ⊢
        omega
      rw [e2]; rfl
    | some v =>
      obtain ⟨z, ez, rfl, _⟩ := hb i v e
      rw [ez]; rfl
  refine ⟨bs, hl, em, fun b hb' => ?_⟩
  obtain ⟨i, hi, e⟩ := List.getElem_of_mem hb'
  obtain ⟨z, ez, _, nz⟩ := hb i _ (List.getElem?_eq_getElem (by omega))
  rw [List.getElem?_eq_getElem hi, e] at ez
  cases ez
  exact nz
theorem In26.take {ks : List Int} (h : In26 ks) (n : Nat) : In26 (ks.take n) := fun k hk => h k (List.mem_of_mem_take hk)
theorem In26.set {ks : List Int} (h : In26 ks) (i : Nat) {a : Int} (h0 : 0 ≤ a) (h1 : a < 26) : In26 (ks.set i a) := fun k hk => by
  rcases List.mem_or_eq_of_mem_set hk with z | z
  · exact h k z
  · rw [z]; exact ⟨h0, h1⟩
noncomputable def candW (bs : List Int) (m one two : Nat) (n : Int) : List Int := ((bs.take m).set one ((bs.getD one 0 + n) % 26)).set two ((bs.getD two 0 + n / 26) % 26)
theorem cand_in {bs : List Int} (h : In26 bs) (m one two : Nat) (n : Int) : In26 (candW bs m one two n) :=
  ((h.take m).set one (by omega) (by omega)).set two (by omega) (by omega)
theorem cand_len {bs : List Int} {m one two : Nat} {n : Int} (h : m ≤ bs.length) : (candW bs m one two n).length = m := by
  unfold candW
  rw [List.length_set, List.length_set, List.length_take, Nat.min_eq_left h]
theorem cand_ne {bs : List Int} {m one two : Nat} (h : In26 bs) (hm : m ≤ bs.length) (h1 : one < m) (hne : two ≠ one) {i j : Nat} (hi : i < 12) (hj : j < 12) (e : wdOf (candW bs m one two (0 + (i : Int))) = wdOf (candW bs m one two (0 + (j : Int)))) : i = j := by
  have key : ∀ n : Int, (candW bs m one two n)[one]? = some ((bs.getD one 0 + n) % 26) := fun n => by
    unfold candW
    rw [List.getElem?_set_ne hne, List.getElem?_set_self (by rw [List.length_take]; omega)]
  have := wd_at e (cand_in h _ _ _ _) (cand_in h _ _ _ _) (key _) (key _)
  omega
noncomputable def prefN (bs : List Int) : List Str := (List.range 8).map fun i => wdOf (bs.take (i + 1))
theorem pref_nm {bs : List Int} (h : In26 bs) (hl : bs.length = 8) : ∀ z ∈ prefN bs, IsNm z := fun z hz => by
  obtain ⟨i, hi, rfl⟩ := List.mem_map.mp hz
  have hi := List.mem_range.mp hi
  exact wd_nm (by rw [List.length_take]; omega) (by rw [List.length_take]; omega) (h.take _)
theorem pref_nd {bs : List Int} (hl : bs.length = 8) : (prefN bs).Nodup := by
  unfold prefN
  refine List.pairwise_map.mpr (List.Pairwise.imp_of_mem (fun {a b} ha hb hlt e => ?_) List.pairwise_lt_range)
  have ha := List.mem_range.mp ha
  have hb := List.mem_range.mp hb
  have := congrArg Str.length e
  rw [wd_len, wd_len, List.length_take, List.length_take] at this
  omega
theorem two_ne {m one t : Int} (hm : 0 < m) (h0 : 0 ≤ one) (h1 : one < m) (t0 : 0 ≤ t) (t1 : t < m - 1) : 0 ≤ (one + 1 + t) % m ∧ (one + 1 + t) % m < m ∧ (one + 1 + t) % m ≠ one := by
  refine ⟨Int.emod_nonneg _ (by omega), Int.emod_lt_of_pos _ hm, fun e => ?_⟩
  by_cases k : one + 1 + t < m
  · rw [Int.emod_eq_of_lt (by omega) k] at e
    omega
  · have h := Int.add_mul_emod_self_left (one + 1 + t - m) m 1
    rw [show one + 1 + t - m + m * 1 = one + 1 + t from by omega, Int.emod_eq_of_lt (a := one + 1 + t - m) (by omega) (by omega)] at h
    omega
theorem lat {b : Int} (h0 : 0 ≤ b) (h1 : b < 26) : atI letters.cps.toList b = some (97 + b.toNat) := by
  have h := atI_nat (letters_at h0 h1)
  rwa [show ((b.toNat : Nat) : Int) = b from by omega] at h
theorem at_int {bs : List Int} {k : Int} (h0 : 0 ≤ k) (h1 : k < bs.length) : atI (bs.map V.int) k = some (V.int (bs.getD k.toNat 0)) := by
  have h2 : k.toNat < bs.length := by omega
  have h := atI_nat (xs := bs.map V.int) (j := k.toNat) (v := V.int (bs.getD k.toNat 0)) (by rw [List.getElem?_map, List.getElem?_eq_getElem h2]; simp [List.getD, h2])
  rwa [show ((k.toNat : Nat) : Int) = k from by omega] at h
theorem ix_in {n : Nat} {k : Int} (h0 : 0 ≤ k) (h1 : k < n) : ixN n k = some k.toNat := by
  unfold ixN
  rw [if_pos h0, if_pos h1]
theorem cut_int {bs : List Int} {k : Int} (h : 0 ≤ k) : cutV (bs.map V.int) none (some k) = (bs.take k.toNat).map V.int := by
  have e := cut_to (bs.map V.int) k.toNat
  rw [show ((k.toNat : Nat) : Int) = k from by omega] at e
  rw [e, List.map_take]
theorem snoc_nd {zs : List Str} {x : Str} (h : zs.Nodup) (hx : x ∉ zs) : (zs ++ [x]).Nodup := by
  refine List.pairwise_append.mpr ⟨h, List.pairwise_singleton _ _, fun a ha b hb => ?_⟩
  rw [List.mem_singleton.mp hb]
  exact fun e => hx (e ▸ ha)
theorem twelve {bs : List Int} {m one two : Nat} (h : In26 bs) (hm : m ≤ bs.length) (h1 : one < m) (hne : two ≠ one) {zs : List Str} (hz : ∀ j : Nat, j < 12 → wdOf (candW bs m one two (0 + (j : Int))) ∈ zs) : 12 ≤ zs.length := by
  have nd : ((List.range 12).map fun j : Nat => wdOf (candW bs m one two (0 + (j : Int)))).Nodup := by
    refine List.pairwise_map.mpr (List.Pairwise.imp_of_mem (fun {a b} ha hb hlt e => ?_) List.pairwise_lt_range)
    have := cand_ne h hm h1 hne (List.mem_range.mp ha) (List.mem_range.mp hb) e
    omega
  have := nodup_len _ zs nd fun x hx => by
    obtain ⟨j, hj, rfl⟩ := List.mem_map.mp hx
    exact hz j (List.mem_range.mp hj)
  rwa [List.length_map, List.length_range] at this
theorem comp_word {K : PySem.W.Frag} {a : Addr} {ks : List Int} {te : TE} {τ0 : L2.St} {H : Hp} {Fin : List V → Hp → Prop} (h8 : ks.length ≤ 8) (hr : In26 ks) (hl : SqL K H a (ks.map V.int))
    (hte : ∀ (b : Int) H' (Q : VK), 0 ≤ b → b < 26 → Same H H' → Q (V.str ⟨#[97 + b.toNat]⟩) H' → te (τ0.set 0 (some (V.int b))) H' Q)
    (hfin : ∀ H', Same H H' → Fin ((ks.map fun k => (⟨#[97 + k.toNat]⟩ : Str)).map V.str) H') : CompW (gName 0) tYes te (Itl K a) τ0 H Fin := by
  refine comp_listI (fun j => V.str ⟨#[97 + (ks.getD j 0).toNat]⟩) (Nat.le_trans (show (ks.map V.int).length ≤ 8 by rw [List.length_map]; exact h8) (by decide)) hl (fun j x H' Q hx sm k => ?_) (fun H' sm => ?_)
  · have hj : j < ks.length := by simpa using (List.getElem?_eq_some_iff.mp hx).1
    rw [List.getElem?_map, List.getElem?_eq_getElem hj] at hx
    obtain rfl : V.int ks[j] = x := Option.some.inj hx
    have hb := hr ks[j] (List.getElem_mem hj)
    refine hte _ _ _ hb.1 hb.2 sm ?_
    have k2 : Q (V.str ⟨#[97 + (ks.getD j 0).toNat]⟩) H' := k H' (Same.refl H')
    have e : ks.getD j 0 = ks[j] := by simp [List.getD, hj]
    rw [e] at k2
    exact k2
  · have e : (List.range (ks.map V.int).length).map (fun j => V.str ⟨#[97 + (ks.getD j 0).toNat]⟩) = (ks.map fun k => (⟨#[97 + k.toNat]⟩ : Str)).map V.str := by
      apply List.ext_getElem
      · simp
      · intro i h1 h2
        have : i < ks.length := by simpa using h2
        simp [this]
    have h := hfin H' sm
    rw [← e] at h
    exact h
theorem word_bound {ks : List Int} (h : ks.length ≤ 8) : ((ks.map fun k => (⟨#[97 + k.toNat]⟩ : Str)).map (·.length)).sum + (ks.map fun k => (⟨#[97 + k.toNat]⟩ : Str)).length * (("" : Str)).length ≤ 16777216 := by
  have h1 : ((ks.map fun k => (⟨#[97 + k.toNat]⟩ : Str)).map (·.length)).sum ≤ (ks.map fun k => (⟨#[97 + k.toNat]⟩ : Str)).length * 1 := sum_le fun y hy => by
    obtain ⟨k, _, rfl⟩ := List.mem_map.mp hy
    exact Nat.le_refl 1
  have h2 : (("" : Str)).length = 0 := by decide +kernel
  rw [h2]
  rw [List.length_map] at h1 ⊢
  omega
noncomputable def strangeW : List Str := ["z", "zz", "zzz", "q", "qq", "x", "xx", "w", "ww", "v", "vv", "u", "uu"]
theorem eqV_str {y : V} {s : Str} (h : eqV y (.str s) = true) : y = .str s := by
  cases y with
  | str a => simpa [eqV] using h
  | _ => simp [eqV] at h
theorem inV_of {s : Str} {zs : List V} (h : V.str s ∈ zs) : inV (.str s) zs = true := by
  unfold inV
  rw [List.any_eq_true]
  exact ⟨_, h, by simp [eqV]⟩
theorem of_inV {s : Str} {zs : List V} (h : inV (.str s) zs = true) : V.str s ∈ zs := by
  unfold inV at h
  obtain ⟨y, hy, e⟩ := List.any_eq_true.mp h
  rw [← eqV_str e]
  exact hy
theorem strange_some {zs : List V} (h : zs.length ≤ 12) : ∃ z ys, (strangeW.map V.str).filter (fun v => !inV v zs) = V.str z :: ys ∧ V.str z ∉ zs ∧ z ≠ "" := by
  have hex : ∃ v ∈ strangeW.map V.str, (!inV v zs) = true := by
    refine Classical.byContradiction fun hn => ?_
    have hall : ∀ v ∈ strangeW.map V.str, v ∈ zs := fun v hv => by
      obtain ⟨s, hs, rfl⟩ := List.mem_map.mp hv
      have k0 : ¬ (!inV (V.str s) zs) = true := fun k => hn ⟨_, hv, k⟩
      exact of_inV (by simpa using k0)
    have := nodup_len (strangeW.map V.str) zs (by decide +kernel) hall
    rw [List.length_map] at this
    have e : strangeW.length = 13 := rfl
    omega
  obtain ⟨v, hv, k⟩ := hex
  have hm : v ∈ (strangeW.map V.str).filter (fun v => !inV v zs) := List.mem_filter.mpr ⟨hv, k⟩
  cases e : (strangeW.map V.str).filter (fun v => !inV v zs) with
  | nil => rw [e] at hm; cases hm
  | cons u ys =>
    have hu : u ∈ (strangeW.map V.str).filter (fun v => !inV v zs) := by rw [e]; simp
    obtain ⟨h1, h2⟩ := List.mem_filter.mp hu
    obtain ⟨z, hz, rfl⟩ := List.mem_map.mp h1
    refine ⟨z, ys, rfl, fun hzs => ?_, ?_⟩
    · rw [inV_of hzs] at h2
      cases h2
    · have : ∀ z ∈ strangeW, z ≠ "" := by decide +kernel
      exact this z hz
end Mine

set_option maxHeartbeats 4000000
namespace Mine
open PySem PySem.Spec PyProof.Rows L2
noncomputable def top (i : Nat) : Stmt := PySem.Challenge.pw_drawhouse_k24_parts_told_and_read.main.body.getD i (.Pass ⟨0, 0, 0, 0⟩)
noncomputable def clsBody : Stmt → List Stmt
  | .ClassDef _ _ _ b _ _ _ _ _ _ _ => b
  | _ => []
noncomputable abbrev s_show_term : Stmt := top 25
noncomputable abbrev s_show_expr : Stmt := top 26
noncomputable abbrev s_is_name : Stmt := top 12
noncomputable abbrev s_are_names : Stmt := top 13
noncomputable abbrev s_is_address : Stmt := top 14
noncomputable abbrev s_is_number : Stmt := top 20
noncomputable abbrev s_read_path : Stmt := top 21
noncomputable abbrev s_read_term : Stmt := top 22
noncomputable abbrev s_read_sign : Stmt := top 23
noncomputable abbrev s_read_expr : Stmt := top 24
noncomputable abbrev s_has_call : Stmt := top 27
noncomputable abbrev s_names_expr : Stmt := top 38
noncomputable abbrev s_names_address : Stmt := top 39
noncomputable abbrev s_names_word : Stmt := top 40
noncomputable abbrev s_terms_from : Stmt := top 41
noncomputable abbrev s_deed_of : Stmt := top 42
noncomputable abbrev s_row_of : Stmt := top 43
noncomputable abbrev s_row_at : Stmt := top 44
noncomputable abbrev s_read_head : Stmt := top 45
noncomputable abbrev s_read_part : Stmt := top 46
noncomputable abbrev s_m_Part___init__ : Stmt := (clsBody (top 1)).getD 0 (.Pass ⟨0, 0, 0, 0⟩)
noncomputable abbrev s_m_Part_bound : Stmt := (clsBody (top 1)).getD 1 (.Pass ⟨0, 0, 0, 0⟩)
noncomputable abbrev s_m_Part_place_of : Stmt := (clsBody (top 1)).getD 2 (.Pass ⟨0, 0, 0, 0⟩)
noncomputable abbrev s_m_Part_text : Stmt := (clsBody (top 1)).getD 3 (.Pass ⟨0, 0, 0, 0⟩)
noncomputable abbrev s_m_Row_binds : Stmt := (clsBody (top 29)).getD 0 (.Pass ⟨0, 0, 0, 0⟩)
noncomputable abbrev s_m_Row_asked : Stmt := (clsBody (top 29)).getD 1 (.Pass ⟨0, 0, 0, 0⟩)
noncomputable abbrev s_m_Row_said : Stmt := (clsBody (top 29)).getD 2 (.Pass ⟨0, 0, 0, 0⟩)
noncomputable abbrev s_m_Let___init__ : Stmt := (clsBody (top 30)).getD 0 (.Pass ⟨0, 0, 0, 0⟩)
noncomputable abbrev s_m_Let_binds : Stmt := (clsBody (top 30)).getD 1 (.Pass ⟨0, 0, 0, 0⟩)
noncomputable abbrev s_m_Let_said : Stmt := (clsBody (top 30)).getD 2 (.Pass ⟨0, 0, 0, 0⟩)
noncomputable abbrev s_m_Deed___init__ : Stmt := (clsBody (top 31)).getD 0 (.Pass ⟨0, 0, 0, 0⟩)
noncomputable abbrev s_m_Deed_binds : Stmt := (clsBody (top 31)).getD 1 (.Pass ⟨0, 0, 0, 0⟩)
noncomputable abbrev s_m_Deed_said : Stmt := (clsBody (top 31)).getD 2 (.Pass ⟨0, 0, 0, 0⟩)
noncomputable abbrev s_m_Draw___init__ : Stmt := (clsBody (top 32)).getD 0 (.Pass ⟨0, 0, 0, 0⟩)
noncomputable abbrev s_m_Draw_binds : Stmt := (clsBody (top 32)).getD 1 (.Pass ⟨0, 0, 0, 0⟩)
noncomputable abbrev s_m_Draw_asked : Stmt := (clsBody (top 32)).getD 2 (.Pass ⟨0, 0, 0, 0⟩)
noncomputable abbrev s_m_Draw_said : Stmt := (clsBody (top 32)).getD 3 (.Pass ⟨0, 0, 0, 0⟩)
noncomputable abbrev s_m_Late___init__ : Stmt := (clsBody (top 33)).getD 0 (.Pass ⟨0, 0, 0, 0⟩)
noncomputable abbrev s_m_Late_binds : Stmt := (clsBody (top 33)).getD 1 (.Pass ⟨0, 0, 0, 0⟩)
noncomputable abbrev s_m_Late_asked : Stmt := (clsBody (top 33)).getD 2 (.Pass ⟨0, 0, 0, 0⟩)
noncomputable abbrev s_m_Late_said : Stmt := (clsBody (top 33)).getD 3 (.Pass ⟨0, 0, 0, 0⟩)
noncomputable abbrev s_m_Take___init__ : Stmt := (clsBody (top 34)).getD 0 (.Pass ⟨0, 0, 0, 0⟩)
noncomputable abbrev s_m_Take_binds : Stmt := (clsBody (top 34)).getD 1 (.Pass ⟨0, 0, 0, 0⟩)
noncomputable abbrev s_m_Take_asked : Stmt := (clsBody (top 34)).getD 2 (.Pass ⟨0, 0, 0, 0⟩)
noncomputable abbrev s_m_Take_said : Stmt := (clsBody (top 34)).getD 3 (.Pass ⟨0, 0, 0, 0⟩)
noncomputable abbrev s_m_Need___init__ : Stmt := (clsBody (top 35)).getD 0 (.Pass ⟨0, 0, 0, 0⟩)
noncomputable abbrev s_m_Need_said : Stmt := (clsBody (top 35)).getD 1 (.Pass ⟨0, 0, 0, 0⟩)
noncomputable abbrev s_law_cell : Stmt := top 48
noncomputable abbrev s_law_sub : Stmt := top 49
noncomputable abbrev s_law_number : Stmt := top 50
noncomputable abbrev s_law_pick : Stmt := top 51
noncomputable abbrev s_law_name : Stmt := top 53
noncomputable abbrev s_law_names : Stmt := top 52
noncomputable abbrev s_law_label : Stmt := top 54
noncomputable abbrev s_law_address : Stmt := top 55
noncomputable abbrev s_law_term : Stmt := top 56
noncomputable abbrev s_law_terms : Stmt := top 57
noncomputable abbrev s_law_word : Stmt := top 58
noncomputable abbrev s_law_text : Stmt := top 59
noncomputable abbrev s_law_row : Stmt := top 60
noncomputable abbrev s_law_said : Stmt := top 61
noncomputable abbrev s_law_whole : Stmt := top 62
noncomputable abbrev s_law_term_is : Stmt := top 63
noncomputable abbrev s_law_terms_are : Stmt := top 64
noncomputable abbrev s_law_is : Stmt := top 65
noncomputable abbrev s_law_says : Stmt := top 66
noncomputable abbrev s_law_made : Stmt := top 67
noncomputable abbrev s_law_strange : Stmt := top 68
noncomputable abbrev s_law_holds : Stmt := top 69
noncomputable abbrev s_law : Stmt := top 70
noncomputable def cellN (ns : List Int) (k : Int) : Int := if k < (ns.length : Int) then Builtin.bitAnd (ns.getD k.toNat 0) (1 * 2 ^ (18000 : Int).toNat - 1) else 0
noncomputable def spCellN (K : PySem.W.Frag) : Sp := fun vs H Q _ => ∃ (a : Addr) (ns : List Int) (k : Int), vs = [.ref a, .int k] ∧ SqL K H a (ns.map V.int) ∧ 0 ≤ k ∧ Pur (.int (cellN ns k)) H Q

section
variable {P : Program} {w : World} {K : PySem.W.Frag} {mg : Str → Option Value} {base : Heap}
noncomputable abbrev psCell : List Str := ["_law_script", "_law_k"]
theorem scCell : FnScope ["_law_script", "_law_k"] psCell (defScope s_law_cell) := ⟨rfl, rfl, rfl, by decide +kernel, rfl, by decide +kernel, by decide +kernel⟩
theorem ok_cell {f : Addr} {fd : FuncData} (F : Fun K "_law_cell" "_law_cell" s_law_cell f fd) (hlen : mg "len" = none) : FnOk P w K mg base CX0 1 f fd psCell (spCellN K) := by
  refine F.ok scCell (fun vs H Q E h => ?_) (fun cdv A outer s H vs Q E hr h => ?_)
  · obtain ⟨a, ns, k, rfl, _⟩ := h
    rfl
  · obtain ⟨a, ns, k, rfl, hS, h0, q⟩ := h
    refine ⟨_, pss_cons (ps_if (pt_cmpR op_lt (pv 1) (pe_callB call_len_seq (by rfl) hlen PySem.boot_len (pa_cons (pv 0) pa_nil)) (nomark _))
        (pss_one (ps_ret (pe_op op_and (pe_ix ix_list (pv 0) (pv 1) (fun _ _ => rfl)) (pe_op op_sub (pe_op op_shl pe_int pe_int) pe_int)))) pss_nil)
      (pss_one (ps_ret pe_int)), ?_⟩
    refine ⟨_, rfl, _, rfl, a, _, rfl, .inl hS, _, _, rfl, rfl, _, rfl, ?_⟩
    rw [List.length_map]
    refine ite2d (fun hk => ?_) (fun hk => ?_)
    · have hk2 : ns[k.toNat]? = some (ns.getD k.toNat 0) := by
        rw [List.getD_eq_getElem?_getD, List.getElem?_eq_getElem (by omega)]
        rfl
      have hk3 : (ns.map V.int)[k.toNat]? = some (V.int (ns.getD k.toNat 0)) := by rw [List.getElem?_map, hk2]; rfl
      have hat : atI (ns.map V.int) k = some (V.int (ns.getD k.toNat 0)) := by
        have := atI_nat hk3
        rwa [show ((k.toNat : Nat) : Int) = k from by omega] at this
      refine ⟨_, rfl, _, rfl, a, _, _, _, rfl, rfl, hS, hat, _, _, rfl, rfl, ⟨by decide, by decide, by decide⟩, _, _, rfl, rfl, _, _, rfl, rfl, ?_⟩
      have e : cellN ns k = Builtin.bitAnd (ns.getD k.toNat 0) (1 * 2 ^ (18000 : Int).toNat - 1) := if_pos hk
      have q' := q H (Same.refl H)
      rw [e] at q'
      exact q'
    · have e : cellN ns k = 0 := if_neg hk
      have q' := q H (Same.refl H)
      rw [e] at q'
      exact q'
noncomputable abbrev psSub : List Str := ["_law_cell_here", "_law_j"]
theorem scSub : FnScope ["_law_cell_here", "_law_j"] psSub (defScope s_law_sub) := ⟨rfl, rfl, rfl, by decide +kernel, rfl, by decide +kernel, by decide +kernel⟩
theorem ok_sub {f : Addr} {fd : FuncData} (F : Fun K "_law_sub" "_law_sub" s_law_sub f fd) : FnOk P w K mg base CX0 1 f fd psSub spSub := by
  refine F.ok scSub (fun vs H Q E h => ?_) (fun cdv A outer s H vs Q E hr h => ?_)
  · obtain ⟨c, j, rfl, _⟩ := h
    rfl
  · obtain ⟨c, j, rfl, h0, h1, q⟩ := h
    refine ⟨_, pss_cons (ps_if (pw_and (pt_cmpR op_eq (pe_op op_mod (pv 0) pe_int) pe_int (nomark _)) (pw_and1 (pt_cmpR op_gt (pe_op op_shr (pv 0) (pe_op op_add (pe_op op_mul pe_int (pv 1)) pe_int)) pe_int (nomark _)))).pt
        (pss_one (ps_ret (pe_op op_or (pe_op op_shr (pv 0) (pe_op op_mul pe_int (pv 1))) pe_int))) pss_nil)
      (pss_one (ps_ret (pe_op op_mul (pe_op op_add (pe_op op_fdiv (pe_op op_fdiv (pv 0) pe_int) (pe_op op_add (pv 1) pe_int)) (pe_op op_mul pe_int (pv 1))) pe_int))), ?_⟩
    have q' := q H (Same.refl H)
    have tail : sub c j = subB c j → tRet (tOp (rI CMul fun i j => .int (i * j)) (tOp (rI0 fun i j => .int (i + j)) (tOp (rI CDiv fun i j => .int (i / j)) (tOp (rI CDiv fun i j => .int (i / j)) (tVar 0) (tC (.int 2))) (tOp (rI0 fun i j => .int (i + j)) (tVar 1) (tC (.int 1)))) (tOp (rI CMul fun i j => .int (i * j)) (tC (.int 104729)) (tVar 1))) (tC (.int 2)))
        { nx := fun _ H' => Q .non H', rt := Q } (start ["_law_cell_here", "_law_j"] [V.int c, V.int j]) H := fun e => by
      rw [e] at q'
      exact ⟨_, rfl, _, _, rfl, rfl, ⟨by decide, by decide⟩, _, rfl, _, _, rfl, rfl, _, _, rfl, rfl, ⟨by omega, by omega⟩, _, rfl, _, _, rfl, rfl, .inl ⟨by decide, by decide⟩, _, _, rfl, rfl, _, _, rfl, rfl, .inr ⟨by decide, by decide⟩, q'⟩
    refine ⟨_, rfl, _, _, rfl, rfl, (by show (0 : Int) < 2; decide), rfl, _, rfl, ?_⟩
    refine iteVi (fun hA => ?_) (fun hA => ?_)
    · refine ⟨_, rfl, _, rfl, _, _, rfl, rfl, .inl ⟨by decide, by decide⟩, _, _, rfl, rfl, _, _, rfl, rfl, (by show (0 : Int) ≤ 480 * j + 400; omega), _, _, rfl, rfl, _, rfl, ?_⟩
      refine ite2d (fun hB => ?_) (fun hB => ?_)
      · have e : sub c j = subA c j := if_pos ⟨hA, hB⟩
        rw [e] at q'
        exact ⟨_, rfl, _, rfl, _, _, rfl, rfl, .inl ⟨by decide, by decide⟩, _, _, rfl, rfl, (by show (0 : Int) ≤ 480 * j; omega), _, _, rfl, rfl, q'⟩
      · exact tail (if_neg fun z => hB z.2)
    · refine iteF ?_
      exact tail (if_neg fun z => hA z.1)
noncomputable abbrev psPick : List Str := ["_law_cell_here", "_law_k", "_law_many"]
theorem scPick : FnScope ["_law_cell_here", "_law_k", "_law_many", "_law_great", "_law_by", "_law_one"] psPick (defScope s_law_pick) := ⟨rfl, rfl, rfl, by decide +kernel, rfl, by decide +kernel, by decide +kernel⟩
theorem ok_pick {f : Addr} {fd : FuncData} (F : Fun K "_law_pick" "_law_pick" s_law_pick f fd) : FnOk P w K mg base CX0 1 f fd psPick spPick := by
  refine F.ok scPick (fun vs H Q E h => ?_) (fun cdv A outer s H vs Q E hr h => ?_)
  · obtain ⟨c, k, m, rfl, _⟩ := h
    rfl
  · obtain ⟨c, k, m, rfl, h0, h1, hm, q⟩ := h
    refine ⟨_, pss_cons (ps_if (pw_and (pt_cmpR op_eq (pe_op op_mod (pv 0) pe_int) pe_int (nomark _)) (pw_and1 (pt_cmpR op_gt (pe_op op_shr (pv 0) pe_int) pe_int (nomark _)))).pt
        (pss_one (ps_ret (pe_op op_mod (pe_op op_and (pe_op op_shr (pv 0) (pe_op op_add pe_int (pe_op op_mul pe_int (pv 1)))) pe_int) (pv 2)))) pss_nil)
      (pss_cons (ps_set (i := 3) scPick.nd rfl (Or.inl rfl) pe_int)
      (pss_cons (ps_set (i := 4) scPick.nd rfl (Or.inl rfl) (pe_ix ix_list (pe_lst (pa_cons pe_int (pa_cons pe_int (pa_cons pe_int (pa_cons pe_int (pa_cons pe_int (pa_cons pe_int (pa_cons pe_int (pa_cons pe_int pa_nil))))))))) (pe_op op_mod (pv 1) pe_int) (fun _ _ => rfl)))
      (pss_cons (ps_set (i := 4) scPick.nd rfl (Or.inl rfl) (pe_op op_mul (pv 4) (pe_ix ix_list (pe_lst (pa_cons pe_int (pa_cons pe_int (pa_cons pe_int (pa_cons pe_int (pa_cons pe_int pa_nil)))))) (pe_op op_fdiv (pv 1) pe_int) (fun _ _ => rfl))))
      (pss_cons (ps_set (i := 5) scPick.nd rfl (Or.inl rfl) (pe_op op_mod (pe_op op_mul (pe_op op_add (pe_op op_mod (pe_op op_fdiv (pv 0) pe_int) (pv 3)) pe_int) (pv 4)) (pv 3)))
      (pss_cons (ps_set (i := 5) scPick.nd rfl (Or.inl rfl) (pe_op op_mod (pe_op op_mul (pv 5) (pv 5)) pe_int))
      (pss_one (ps_ret (pe_op op_mod (pe_op op_fdiv (pe_op op_mod (pe_op op_mul (pe_op op_add (pe_op op_add (pv 5) (pv 1)) pe_int) (pe_op op_add (pe_op op_fdiv (pv 5) pe_int) pe_int)) pe_int) pe_int) (pv 2))))))))), ?_⟩
    obtain ⟨t1, t2, t3⟩ := tab8_at (k := k % 8) (by omega) (by omega)
    obtain ⟨u1, u2, u3⟩ := tab5_at (k := k / 8) (by omega) (by omega)
    have a8 : atI (tab8.map V.int) (k % 8) = some (V.int (tab8.getD (k % 8).toNat 0)) := by
      have := atI_nat (xs := tab8.map V.int) (j := (k % 8).toNat) (by rw [List.getElem?_map, t1]; rfl)
      rwa [show (((k % 8).toNat : Nat) : Int) = k % 8 from by omega] at this
    have a5 : atI (tab5.map V.int) (k / 8) = some (V.int (tab5.getD (k / 8).toNat 0)) := by
      have := atI_nat (xs := tab5.map V.int) (j := (k / 8).toNat) (by rw [List.getElem?_map, u1]; rfl)
      rwa [show (((k / 8).toNat : Nat) : Int) = k / 8 from by omega] at this
    have g1 := one1_ge c k
    have g2 := one1_lt c k
    have g3 := one2_ge c k
    have g4 := one2_lt c k
    have ms := mul_small t2 t3 u2 u3
    refine ⟨_, rfl, _, _, rfl, rfl, (by show (0 : Int) < 2; decide), rfl, _, rfl, ?_⟩
    refine iteVi (fun hA => ?_) (fun hA => ?_)
    · refine ⟨_, rfl, _, _, rfl, rfl, (by show (0 : Int) ≤ 400; decide), _, _, rfl, rfl, _, rfl, ?_⟩
      refine ite2d (fun hB => ?_) (fun hB => ?_)
      · have e : pick c k m = pickA c k m := if_pos ⟨hA, hB⟩
        have q' := q H (Same.refl H)
        rw [e] at q'
        exact ⟨_, rfl, _, rfl, _, _, rfl, rfl, .inl ⟨by decide, by decide⟩, _, _, rfl, rfl, _, _, rfl, rfl, (by show (0 : Int) ≤ 1 + 10 * k; omega), _, _, rfl, rfl, _, rfl, _, _, rfl, rfl, hm, q'⟩
      · have e : pick c k m = pickB c k m := if_neg fun z => hB z.2
        refine ⟨by show 8 ≤ sizeLine; decide, fun p hp => ?_⟩
        refine ⟨_, rfl, _, _, rfl, rfl, (by show (0 : Int) < 8; decide), p, tab8.map V.int, _, _, rfl, rfl, SqL.of upd_same, a8, ?_⟩
        refine ⟨_, rfl, (by show 5 ≤ sizeLine; decide), fun p2 hp2 => ?_⟩
        refine ⟨_, rfl, _, _, rfl, rfl, ⟨by decide, by decide⟩, p2, tab5.map V.int, _, _, rfl, rfl, SqL.of upd_same, a5, _, _, rfl, rfl, .inl ⟨by omega, by omega⟩, ?_⟩
        refine ⟨_, rfl, _, _, rfl, rfl, ⟨by decide, by decide⟩, _, rfl, _, _, rfl, rfl, (by show (0 : Int) < 2305843009213693951; decide), _, _, rfl, rfl, _, rfl, _, _, rfl, rfl, .inr ⟨by omega, by omega⟩, _, rfl, _, _, rfl, rfl, (by show (0 : Int) < 2305843009213693951; decide), ?_⟩
        refine ⟨_, rfl, _, rfl, _, _, rfl, rfl, .inl ⟨(by show -(2 ^ 64) < one1 c k; omega), (by show one1 c k < 2 ^ 64; omega)⟩, _, _, rfl, rfl, (by show (0 : Int) < 1000000000039; decide), ?_⟩
        refine ⟨_, rfl, _, rfl, _, _, rfl, rfl, _, _, rfl, rfl, _, rfl, _, _, rfl, rfl, ⟨by decide, by decide⟩, _, _, rfl, rfl, _, _, rfl, rfl, .inl ⟨(by show -(2 ^ 64) < one2 c k + k + 1; omega), (by show one2 c k + k + 1 < 2 ^ 64; omega)⟩, _, _, rfl, rfl, (by show (0 : Int) < 67280421310721; decide), _, _, rfl, rfl, ⟨by decide, by decide⟩, _, rfl, _, _, rfl, rfl, hm, ?_⟩
        rw [e] at q
        exact q _ ((Same.new hp).put hp2)
    · refine iteF ?_
      have e : pick c k m = pickB c k m := if_neg fun z => hA z.1
      refine ⟨by show 8 ≤ sizeLine; decide, fun p hp => ?_⟩
      refine ⟨_, rfl, _, _, rfl, rfl, (by show (0 : Int) < 8; decide), p, tab8.map V.int, _, _, rfl, rfl, SqL.of upd_same, a8, ?_⟩
      refine ⟨_, rfl, (by show 5 ≤ sizeLine; decide), fun p2 hp2 => ?_⟩
      refine ⟨_, rfl, _, _, rfl, rfl, ⟨by decide, by decide⟩, p2, tab5.map V.int, _, _, rfl, rfl, SqL.of upd_same, a5, _, _, rfl, rfl, .inl ⟨by omega, by omega⟩, ?_⟩
      refine ⟨_, rfl, _, _, rfl, rfl, ⟨by decide, by decide⟩, _, rfl, _, _, rfl, rfl, (by show (0 : Int) < 2305843009213693951; decide), _, _, rfl, rfl, _, rfl, _, _, rfl, rfl, .inr ⟨by omega, by omega⟩, _, rfl, _, _, rfl, rfl, (by show (0 : Int) < 2305843009213693951; decide), ?_⟩
      refine ⟨_, rfl, _, rfl, _, _, rfl, rfl, .inl ⟨(by show -(2 ^ 64) < one1 c k; omega), (by show one1 c k < 2 ^ 64; omega)⟩, _, _, rfl, rfl, (by show (0 : Int) < 1000000000039; decide), ?_⟩
      refine ⟨_, rfl, _, rfl, _, _, rfl, rfl, _, _, rfl, rfl, _, rfl, _, _, rfl, rfl, ⟨by decide, by decide⟩, _, _, rfl, rfl, _, _, rfl, rfl, .inl ⟨(by show -(2 ^ 64) < one2 c k + k + 1; omega), (by show one2 c k + k + 1 < 2 ^ 64; omega)⟩, _, _, rfl, rfl, (by show (0 : Int) < 67280421310721; decide), _, _, rfl, rfl, ⟨by decide, by decide⟩, _, rfl, _, _, rfl, rfl, hm, ?_⟩
      rw [e] at q
      exact q _ ((Same.new hp).put hp2)
noncomputable abbrev psName : List Str := ["_law_cell_here"]
theorem scName : FnScope ["_law_cell_here", "_law_letters"] psName (defScope s_law_name) := ⟨rfl, rfl, rfl, by decide +kernel, rfl, by decide +kernel, by decide +kernel⟩
theorem ok_name {f fp : Addr} {fd fdp : FuncData} (F : Fun K "_law_name" "_law_name" s_law_name f fd) (A1 : FnAt K mg "_law_pick" s_law_pick psPick fp fdp) (hrg : mg "range" = none) : FnOk P w K mg base CX0 2 f fd psName spName := by
  have G1 : FnOk P w K mg base CX0 1 fp fdp psPick spPick := ok_pick A1.F
  refine F.ok scName (fun vs H Q E h => ?_) (fun cdv A outer s H vs Q E hr h => ?_)
  · obtain ⟨c, rfl, _⟩ := h
    rfl
  · obtain ⟨c, rfl, q⟩ := h
    have hr1 : Room 1 _ := hr
    refine ⟨_, pss_cons (ps_set (i := 1) scName.nd rfl (Or.inr rfl) pe_str)
      (pss_one (ps_ret (pe_bm PySem.F.plainAttrs_str PySem.F.slot_str_join PySem.F.type_str_join mt_join pe_str
        (pa_cons (pe_comp (N := ["_law_j", "_law_letters", "_law_cell_here"]) [none, some 1, some 0] rfl (by kernel_rfl)
          (pi_range1 (by rfl) hrg (pa_cons (pe_op op_add pe_int (pcall A1 G1 hr1 (pa_cons (pv 0) (pa_cons pe_int (pa_cons pe_int pa_nil))))) pa_nil))
          (fun cl C fp s H => pg_name (i := 0) (by decide +kernel : (["_law_j", "_law_letters", "_law_cell_here"] : List Str).Nodup) rfl (Or.inl rfl)) (fun cl C fp s H => pf_nil)
          (fun cl C fp s H => pe_ix ix_str (pv 1) (pcall A1 G1 hr1 (pa_cons (pv 2) (pa_cons (pe_op op_add pe_int (pv 0)) (pa_cons pe_int pa_nil)))) (fun _ _ => rfl))) pa_nil)))), ?_⟩
    refine ⟨rfl, ?_⟩
    refine ⟨_, rfl, c, 30, 8, rfl, by decide, by decide, by decide, fun H1 s1 => ?_⟩
    have b1 := pick_ge c 30 (m := 8) (by decide)
    have b2 := pick_lt c 30 (m := 8) (by decide)
    refine ⟨_, _, rfl, rfl, _, rfl, by omega, by omega, ?_⟩
    refine comp_range (fun j => V.str ⟨#[letter c j]⟩) (Nat.le_trans (show (1 + pick c 30 8).toNat ≤ 8 by omega) (by decide)) (fun i H' Q' hi sm k' => ?_) (fun τ H Q Q' hh h => hh _ _ h) (fun H' sm => ?_)
    · refine ⟨rfl, ?_⟩
      have l1 := pick_ge c (31 + (0 + (i : Int))) (m := 26) (by decide)
      have l2 := pick_lt c (31 + (0 + (i : Int))) (m := 26) (by decide)
      have li : i < (1 + pick c 30 8).toNat := hi
      refine ⟨_, rfl, _, rfl, _, rfl, _, _, rfl, rfl, c, 31 + (0 + (i : Int)), 26, rfl, by omega, by omega, by decide, fun H2 s2 => ?_⟩
      have lat : atI letters.cps.toList (pick c (31 + (0 + (i : Int))) 26) = some (97 + (pick c (31 + (0 + (i : Int))) 26).toNat) := by
        have := atI_nat (letters_at l1 l2)
        rwa [show (((pick c (31 + (0 + (i : Int))) 26).toNat : Nat) : Int) = pick c (31 + (0 + (i : Int))) 26 from by omega] at this
      refine ⟨letters, _, _, rfl, rfl, by decide +kernel, lat, ?_⟩
      have e : V.str ⟨#[97 + (pick c (31 + (0 + (i : Int))) 26).toNat]⟩ = V.str ⟨#[letter c i]⟩ := by
        unfold letter
        rw [show (0 + (i : Int)) = (i : Int) from by omega]
      rw [e]
      exact k' H2 s2
    · intro p hp
      refine ⟨_, p, (List.range (1 + pick c 30 8).toNat).map fun (j : Nat) => (⟨#[letter c (j : Int)]⟩ : Str), rfl, rfl, .inl (SqL.of ?_), ?_, ?_⟩
      · rw [List.map_map]
        exact upd_same
      · have h1 : ∀ y ∈ (List.range (1 + pick c 30 8).toNat).map fun (j : Nat) => (⟨#[letter c (j : Int)]⟩ : Str), y.length ≤ 1 := fun y hy => by
          obtain ⟨j, _, rfl⟩ := List.mem_map.mp hy
          exact Nat.le_refl 1
        have h2 := sum_le h1
        rw [List.length_map, List.length_range] at h2
        have h3 : (("" : Str)).length = 0 := by decide +kernel
        rw [List.length_map, List.length_range, h3]
        omega
      · rw [empty_eq, join_letters]
        exact q _ ((s1.trans sm).put hp)
end


section
variable {P : Program} {w : World} {K : PySem.W.Frag} {mg : Str → Option Value} {base : Heap}
noncomputable abbrev psNumber : List Str := ["_law_cell_here", "_law_far"]
theorem scNumber : FnScope ["_law_cell_here", "_law_far"] psNumber (defScope s_law_number) := ⟨rfl, rfl, rfl, by decide +kernel, rfl, by decide +kernel, by decide +kernel⟩
theorem ok_number {f : Addr} {fd : FuncData} (F : Fun K "_law_number" "_law_number" s_law_number f fd) : FnOk P w K mg base CX0 1 f fd psNumber spNumber := by
  refine F.ok scNumber (fun vs H Q E h => ?_) (fun cdv A outer s H vs Q E hr h => ?_)
  · obtain ⟨c, far, rfl, _⟩ := h
    rfl
  · obtain ⟨c, far, rfl, h0, q⟩ := h
    refine ⟨_, pss_cons (ps_if (pw_and (pt_cmpR op_eq (pe_op op_mod (pv 0) pe_int) pe_int (nomark _)) (pw_and1 (pt_cmpR op_gt (pe_op op_shr (pv 0) pe_int) pe_int (nomark _)))).pt
        (pss_one (ps_ret (pe_op op_mod (pe_op op_shr (pv 0) pe_int) (pv 1)))) pss_nil)
      (pss_one (ps_ret (pe_op op_mod (pe_op op_fdiv (pv 0) pe_int) (pv 1)))), ?_⟩
    have q' := q H (Same.refl H)
    refine ⟨_, rfl, _, _, rfl, rfl, (by show (0 : Int) < 2; decide), rfl, _, rfl, ?_⟩
    refine iteVi (fun hA => ?_) (fun hA => ?_)
    · refine ⟨_, rfl, _, _, rfl, rfl, (by show (0 : Int) ≤ 400; decide), _, _, rfl, rfl, _, rfl, ?_⟩
      refine ite2d (fun hB => ?_) (fun hB => ?_)
      · have e : number c far = c / 2 ^ (400 : Int).toNat % far := if_pos ⟨hA, hB⟩
        rw [e] at q'
        exact ⟨_, rfl, _, _, rfl, rfl, (by show (0 : Int) ≤ 400; decide), _, rfl, _, _, rfl, rfl, h0, q'⟩
      · have e : number c far = c / 2 % far := if_neg fun z => hB z.2
        rw [e] at q'
        exact ⟨_, rfl, _, _, rfl, rfl, ⟨by decide, by decide⟩, _, rfl, _, _, rfl, rfl, h0, q'⟩
    · refine iteF ?_
      have e : number c far = c / 2 % far := if_neg fun z => hA z.1
      rw [e] at q'
      exact ⟨_, rfl, _, _, rfl, rfl, ⟨by decide, by decide⟩, _, rfl, _, _, rfl, rfl, h0, q'⟩
end

noncomputable abbrev psPShowTerm : List Str := ["kind", "thing"]
theorem scPShowTerm : FnScope ["kind", "thing", "path"] psPShowTerm (defScope s_show_term) := ⟨rfl, rfl, rfl, by decide +kernel, rfl, by decide +kernel, by decide +kernel⟩
noncomputable abbrev psPShowExpr : List Str := ["terms"]
theorem scPShowExpr : FnScope ["terms", "shown", "sign", "kind", "thing"] psPShowExpr (defScope s_show_expr) := ⟨rfl, rfl, rfl, by decide +kernel, rfl, by decide +kernel, by decide +kernel⟩
noncomputable abbrev psPIsName : List Str := ["thing"]
theorem scPIsName : FnScope ["thing"] psPIsName (defScope s_is_name) := ⟨rfl, rfl, rfl, by decide +kernel, rfl, by decide +kernel, by decide +kernel⟩
noncomputable abbrev psPAreNames : List Str := ["text", "most"]
theorem scPAreNames : FnScope ["text", "most", "names"] psPAreNames (defScope s_are_names) := ⟨rfl, rfl, rfl, by decide +kernel, rfl, by decide +kernel, by decide +kernel⟩
noncomputable abbrev psPIsAddress : List Str := ["thing"]
theorem scPIsAddress : FnScope ["thing"] psPIsAddress (defScope s_is_address) := ⟨rfl, rfl, rfl, by decide +kernel, rfl, by decide +kernel, by decide +kernel⟩
noncomputable abbrev psPIsNumber : List Str := ["word"]
theorem scPIsNumber : FnScope ["word"] psPIsNumber (defScope s_is_number) := ⟨rfl, rfl, rfl, by decide +kernel, rfl, by decide +kernel, by decide +kernel⟩
noncomputable abbrev psPReadPath : List Str := ["word"]
theorem scPReadPath : FnScope ["word"] psPReadPath (defScope s_read_path) := ⟨rfl, rfl, rfl, by decide +kernel, rfl, by decide +kernel, by decide +kernel⟩
noncomputable abbrev psPReadTerm : List Str := ["sign", "word"]
theorem scPReadTerm : FnScope ["sign", "word"] psPReadTerm (defScope s_read_term) := ⟨rfl, rfl, rfl, by decide +kernel, rfl, by decide +kernel, by decide +kernel⟩
noncomputable abbrev psPReadSign : List Str := ["word"]
theorem scPReadSign : FnScope ["word"] psPReadSign (defScope s_read_sign) := ⟨rfl, rfl, rfl, by decide +kernel, rfl, by decide +kernel, by decide +kernel⟩
noncomputable abbrev psPReadExpr : List Str := ["text"]
theorem scPReadExpr : FnScope ["text", "words", "terms", "at"] psPReadExpr (defScope s_read_expr) := ⟨rfl, rfl, rfl, by decide +kernel, rfl, by decide +kernel, by decide +kernel⟩
noncomputable abbrev psPHasCall : List Str := ["terms"]
theorem scPHasCall : FnScope ["terms"] psPHasCall (defScope s_has_call) := ⟨rfl, rfl, rfl, by decide +kernel, rfl, by decide +kernel, by decide +kernel⟩
noncomputable abbrev psPNamesExpr : List Str := ["words"]
theorem scPNamesExpr : FnScope ["words"] psPNamesExpr (defScope s_names_expr) := ⟨rfl, rfl, rfl, by decide +kernel, rfl, by decide +kernel, by decide +kernel⟩
noncomputable abbrev psPNamesAddress : List Str := ["words"]
theorem scPNamesAddress : FnScope ["words"] psPNamesAddress (defScope s_names_address) := ⟨rfl, rfl, rfl, by decide +kernel, rfl, by decide +kernel, by decide +kernel⟩
noncomputable abbrev psPNamesWord : List Str := ["words"]
theorem scPNamesWord : FnScope ["words"] psPNamesWord (defScope s_names_word) := ⟨rfl, rfl, rfl, by decide +kernel, rfl, by decide +kernel, by decide +kernel⟩
noncomputable abbrev psPTermsFrom : List Str := ["words", "at"]
theorem scPTermsFrom : FnScope ["words", "at"] psPTermsFrom (defScope s_terms_from) := ⟨rfl, rfl, rfl, by decide +kernel, rfl, by decide +kernel, by decide +kernel⟩
noncomputable abbrev psPDeedOf : List Str := ["name", "terms"]
theorem scPDeedOf : FnScope ["name", "terms"] psPDeedOf (defScope s_deed_of) := ⟨rfl, rfl, rfl, by decide +kernel, rfl, by decide +kernel, by decide +kernel⟩
noncomputable abbrev psPRowOf : List Str := ["words"]
theorem scPRowOf : FnScope ["words", "first"] psPRowOf (defScope s_row_of) := ⟨rfl, rfl, rfl, by decide +kernel, rfl, by decide +kernel, by decide +kernel⟩
noncomputable abbrev psPRowAt : List Str := ["text", "at"]
theorem scPRowAt : FnScope ["text", "at", "row"] psPRowAt (defScope s_row_at) := ⟨rfl, rfl, rfl, by decide +kernel, rfl, by decide +kernel, by decide +kernel⟩
noncomputable abbrev psPReadHead : List Str := ["text"]
theorem scPReadHead : FnScope ["text", "words"] psPReadHead (defScope s_read_head) := ⟨rfl, rfl, rfl, by decide +kernel, rfl, by decide +kernel, by decide +kernel⟩
noncomputable abbrev psPReadPart : List Str := ["text"]
theorem scPReadPart : FnScope ["text", "lines", "address", "rows", "at", "line", "row"] psPReadPart (defScope s_read_part) := ⟨rfl, rfl, rfl, by decide +kernel, rfl, by decide +kernel, by decide +kernel⟩
noncomputable abbrev psPMPartInit : List Str := ["self", "address", "rows"]
theorem scPMPartInit : FnScope ["self", "address", "rows"] psPMPartInit (defScope s_m_Part___init__) := ⟨rfl, rfl, rfl, by decide +kernel, rfl, by decide +kernel, by decide +kernel⟩
noncomputable abbrev psPMPartBound : List Str := ["self"]
theorem scPMPartBound : FnScope ["self", "names"] psPMPartBound (defScope s_m_Part_bound) := ⟨rfl, rfl, rfl, by decide +kernel, rfl, by decide +kernel, by decide +kernel⟩
noncomputable abbrev psPMPartPlaceOf : List Str := ["self", "name"]
theorem scPMPartPlaceOf : FnScope ["self", "name", "at", "row"] psPMPartPlaceOf (defScope s_m_Part_place_of) := ⟨rfl, rfl, rfl, by decide +kernel, rfl, by decide +kernel, by decide +kernel⟩
noncomputable abbrev psPMPartText : List Str := ["self"]
theorem scPMPartText : FnScope ["self"] psPMPartText (defScope s_m_Part_text) := ⟨rfl, rfl, rfl, by decide +kernel, rfl, by decide +kernel, by decide +kernel⟩
noncomputable abbrev psPMRowBinds : List Str := ["self"]
theorem scPMRowBinds : FnScope ["self"] psPMRowBinds (defScope s_m_Row_binds) := ⟨rfl, rfl, rfl, by decide +kernel, rfl, by decide +kernel, by decide +kernel⟩
noncomputable abbrev psPMRowAsked : List Str := ["self"]
theorem scPMRowAsked : FnScope ["self"] psPMRowAsked (defScope s_m_Row_asked) := ⟨rfl, rfl, rfl, by decide +kernel, rfl, by decide +kernel, by decide +kernel⟩
noncomputable abbrev psPMRowSaid : List Str := ["self"]
noncomputable abbrev psPMLetInit : List Str := ["self", "name", "terms"]
theorem scPMLetInit : FnScope ["self", "name", "terms"] psPMLetInit (defScope s_m_Let___init__) := ⟨rfl, rfl, rfl, by decide +kernel, rfl, by decide +kernel, by decide +kernel⟩
noncomputable abbrev psPMLetBinds : List Str := ["self"]
theorem scPMLetBinds : FnScope ["self"] psPMLetBinds (defScope s_m_Let_binds) := ⟨rfl, rfl, rfl, by decide +kernel, rfl, by decide +kernel, by decide +kernel⟩
noncomputable abbrev psPMLetSaid : List Str := ["self"]
theorem scPMLetSaid : FnScope ["self"] psPMLetSaid (defScope s_m_Let_said) := ⟨rfl, rfl, rfl, by decide +kernel, rfl, by decide +kernel, by decide +kernel⟩
noncomputable abbrev psPMDeedInit : List Str := ["self", "name", "terms"]
theorem scPMDeedInit : FnScope ["self", "name", "terms"] psPMDeedInit (defScope s_m_Deed___init__) := ⟨rfl, rfl, rfl, by decide +kernel, rfl, by decide +kernel, by decide +kernel⟩
noncomputable abbrev psPMDeedBinds : List Str := ["self"]
theorem scPMDeedBinds : FnScope ["self"] psPMDeedBinds (defScope s_m_Deed_binds) := ⟨rfl, rfl, rfl, by decide +kernel, rfl, by decide +kernel, by decide +kernel⟩
noncomputable abbrev psPMDeedSaid : List Str := ["self"]
theorem scPMDeedSaid : FnScope ["self"] psPMDeedSaid (defScope s_m_Deed_said) := ⟨rfl, rfl, rfl, by decide +kernel, rfl, by decide +kernel, by decide +kernel⟩
noncomputable abbrev psPMDrawInit : List Str := ["self", "address", "name"]
theorem scPMDrawInit : FnScope ["self", "address", "name"] psPMDrawInit (defScope s_m_Draw___init__) := ⟨rfl, rfl, rfl, by decide +kernel, rfl, by decide +kernel, by decide +kernel⟩
noncomputable abbrev psPMDrawBinds : List Str := ["self"]
theorem scPMDrawBinds : FnScope ["self"] psPMDrawBinds (defScope s_m_Draw_binds) := ⟨rfl, rfl, rfl, by decide +kernel, rfl, by decide +kernel, by decide +kernel⟩
noncomputable abbrev psPMDrawAsked : List Str := ["self"]
theorem scPMDrawAsked : FnScope ["self"] psPMDrawAsked (defScope s_m_Draw_asked) := ⟨rfl, rfl, rfl, by decide +kernel, rfl, by decide +kernel, by decide +kernel⟩
noncomputable abbrev psPMDrawSaid : List Str := ["self"]
theorem scPMDrawSaid : FnScope ["self"] psPMDrawSaid (defScope s_m_Draw_said) := ⟨rfl, rfl, rfl, by decide +kernel, rfl, by decide +kernel, by decide +kernel⟩
noncomputable abbrev psPMLateInit : List Str := ["self", "address", "name"]
theorem scPMLateInit : FnScope ["self", "address", "name"] psPMLateInit (defScope s_m_Late___init__) := ⟨rfl, rfl, rfl, by decide +kernel, rfl, by decide +kernel, by decide +kernel⟩
noncomputable abbrev psPMLateBinds : List Str := ["self"]
theorem scPMLateBinds : FnScope ["self"] psPMLateBinds (defScope s_m_Late_binds) := ⟨rfl, rfl, rfl, by decide +kernel, rfl, by decide +kernel, by decide +kernel⟩
noncomputable abbrev psPMLateAsked : List Str := ["self"]
theorem scPMLateAsked : FnScope ["self"] psPMLateAsked (defScope s_m_Late_asked) := ⟨rfl, rfl, rfl, by decide +kernel, rfl, by decide +kernel, by decide +kernel⟩
noncomputable abbrev psPMLateSaid : List Str := ["self"]
theorem scPMLateSaid : FnScope ["self"] psPMLateSaid (defScope s_m_Late_said) := ⟨rfl, rfl, rfl, by decide +kernel, rfl, by decide +kernel, by decide +kernel⟩
noncomputable abbrev psPMTakeInit : List Str := ["self", "word", "address", "name"]
theorem scPMTakeInit : FnScope ["self", "word", "address", "name"] psPMTakeInit (defScope s_m_Take___init__) := ⟨rfl, rfl, rfl, by decide +kernel, rfl, by decide +kernel, by decide +kernel⟩
noncomputable abbrev psPMTakeBinds : List Str := ["self"]
theorem scPMTakeBinds : FnScope ["self"] psPMTakeBinds (defScope s_m_Take_binds) := ⟨rfl, rfl, rfl, by decide +kernel, rfl, by decide +kernel, by decide +kernel⟩
noncomputable abbrev psPMTakeAsked : List Str := ["self"]
theorem scPMTakeAsked : FnScope ["self"] psPMTakeAsked (defScope s_m_Take_asked) := ⟨rfl, rfl, rfl, by decide +kernel, rfl, by decide +kernel, by decide +kernel⟩
noncomputable abbrev psPMTakeSaid : List Str := ["self"]
theorem scPMTakeSaid : FnScope ["self"] psPMTakeSaid (defScope s_m_Take_said) := ⟨rfl, rfl, rfl, by decide +kernel, rfl, by decide +kernel, by decide +kernel⟩
noncomputable abbrev psPMNeedInit : List Str := ["self", "terms"]
theorem scPMNeedInit : FnScope ["self", "terms"] psPMNeedInit (defScope s_m_Need___init__) := ⟨rfl, rfl, rfl, by decide +kernel, rfl, by decide +kernel, by decide +kernel⟩
noncomputable abbrev psPMNeedSaid : List Str := ["self"]
theorem scPMNeedSaid : FnScope ["self"] psPMNeedSaid (defScope s_m_Need_said) := ⟨rfl, rfl, rfl, by decide +kernel, rfl, by decide +kernel, by decide +kernel⟩
noncomputable abbrev psNames : List Str := ["_law_cell_here", "_law_many"]
theorem scNames : FnScope ["_law_cell_here", "_law_many", "_law_letters", "_law_size", "_law_one", "_law_two", "_law_base", "_law_odd", "_law_names_here", "_law_n", "_law_word_here", "_law_name_here"] psNames (defScope s_law_names) := ⟨rfl, rfl, rfl, by decide +kernel, rfl, by decide +kernel, by decide +kernel⟩
noncomputable abbrev psLabel : List Str := ["_law_cell_here"]
theorem scLabel : FnScope ["_law_cell_here", "_law_some"] psLabel (defScope s_law_label) := ⟨rfl, rfl, rfl, by decide +kernel, rfl, by decide +kernel, by decide +kernel⟩
noncomputable abbrev psAddress : List Str := ["_law_cell_here"]
theorem scAddress : FnScope ["_law_cell_here"] psAddress (defScope s_law_address) := ⟨rfl, rfl, rfl, by decide +kernel, rfl, by decide +kernel, by decide +kernel⟩
noncomputable abbrev psTerm : List Str := ["_law_cell_here", "_law_first"]
theorem scTerm : FnScope ["_law_cell_here", "_law_first", "_law_sign", "_law_way", "_law_far", "_law_names_here"] psTerm (defScope s_law_term) := ⟨rfl, rfl, rfl, by decide +kernel, rfl, by decide +kernel, by decide +kernel⟩
noncomputable abbrev psTerms : List Str := ["_law_cell_here"]
theorem scTerms : FnScope ["_law_cell_here"] psTerms (defScope s_law_terms) := ⟨rfl, rfl, rfl, by decide +kernel, rfl, by decide +kernel, by decide +kernel⟩
noncomputable abbrev psWord : List Str := ["_law_term_here"]
theorem scWord : FnScope ["_law_term_here", "_law_sign", "_law_sort", "_law_thing"] psWord (defScope s_law_word) := ⟨rfl, rfl, rfl, by decide +kernel, rfl, by decide +kernel, by decide +kernel⟩
noncomputable abbrev psText : List Str := ["_law_terms_here"]
theorem scText : FnScope ["_law_terms_here", "_law_text_here", "_law_term_here"] psText (defScope s_law_text) := ⟨rfl, rfl, rfl, by decide +kernel, rfl, by decide +kernel, by decide +kernel⟩
noncomputable abbrev psRow : List Str := ["_law_cell_here", "_law_name_here"]
theorem scRow : FnScope ["_law_cell_here", "_law_name_here", "_law_sort", "_law_terms_here"] psRow (defScope s_law_row) := ⟨rfl, rfl, rfl, by decide +kernel, rfl, by decide +kernel, by decide +kernel⟩
noncomputable abbrev psSaid : List Str := ["_law_row_here"]
theorem scSaid : FnScope ["_law_row_here", "_law_sort", "_law_name_here", "_law_address_here", "_law_word_here", "_law_terms_here"] psSaid (defScope s_law_said) := ⟨rfl, rfl, rfl, by decide +kernel, rfl, by decide +kernel, by decide +kernel⟩
noncomputable abbrev psWhole : List Str := ["_law_found"]
theorem scWhole : FnScope ["_law_found"] psWhole (defScope s_law_whole) := ⟨rfl, rfl, rfl, by decide +kernel, rfl, by decide +kernel, by decide +kernel⟩
noncomputable abbrev psTermIs : List Str := ["_law_found", "_law_due"]
theorem scTermIs : FnScope ["_law_found", "_law_due"] psTermIs (defScope s_law_term_is) := ⟨rfl, rfl, rfl, by decide +kernel, rfl, by decide +kernel, by decide +kernel⟩
noncomputable abbrev psTermsAre : List Str := ["_law_found", "_law_due"]
theorem scTermsAre : FnScope ["_law_found", "_law_due"] psTermsAre (defScope s_law_terms_are) := ⟨rfl, rfl, rfl, by decide +kernel, rfl, by decide +kernel, by decide +kernel⟩
noncomputable abbrev psIs : List Str := ["_law_found", "_law_row_here"]
theorem scIs : FnScope ["_law_found", "_law_row_here", "_law_sort", "_law_name_here", "_law_address_here", "_law_word_here", "_law_terms_here", "_law_flags", "_law_due"] psIs (defScope s_law_is) := ⟨rfl, rfl, rfl, by decide +kernel, rfl, by decide +kernel, by decide +kernel⟩
noncomputable abbrev psSays : List Str := ["_law_found", "_law_row_here"]
theorem scSays : FnScope ["_law_found", "_law_row_here", "_law_due", "_law_binds", "_law_asked", "_law_said_here"] psSays (defScope s_law_says) := ⟨rfl, rfl, rfl, by decide +kernel, rfl, by decide +kernel, by decide +kernel⟩
noncomputable abbrev psMade : List Str := ["_law_row_here", "_law_terms_here"]
theorem scMade : FnScope ["_law_row_here", "_law_terms_here", "_law_sort", "_law_name_here", "_law_address_here", "_law_word_here", "_law_due"] psMade (defScope s_law_made) := ⟨rfl, rfl, rfl, by decide +kernel, rfl, by decide +kernel, by decide +kernel⟩
noncomputable abbrev psStrange : List Str := ["_law_names_here"]
theorem scStrange : FnScope ["_law_names_here", "_law_some"] psStrange (defScope s_law_strange) := ⟨rfl, rfl, rfl, by decide +kernel, rfl, by decide +kernel, by decide +kernel⟩
noncomputable abbrev psHolds : List Str := ["_law_part", "_law_address_here", "_law_rows"]
theorem scHolds : FnScope ["_law_part", "_law_address_here", "_law_rows", "_law_names_here", "_law_at", "_law_found", "_law_bound"] psHolds (defScope s_law_holds) := ⟨rfl, rfl, rfl, by decide +kernel, rfl, by decide +kernel, by decide +kernel⟩
noncomputable abbrev psLaw : List Str := ["_law_script"]
theorem scLaw : FnScope ["_law_script", "_law_head", "_law_many", "_law_names_here", "_law_rows", "_law_k", "_law_address_here", "_law_text_here", "_law_handed", "_law_kept", "_law_made_here", "_law_found", "_law_other", "_law_part"] psLaw (defScope s_law) := ⟨rfl, rfl, rfl, by decide +kernel, rfl, by decide +kernel, by decide +kernel⟩
section
variable {P : Program} {w : World} {K : PySem.W.Frag} {mg : Str → Option Value} {base : Heap}
noncomputable def spIsN (K : PySem.W.Frag) : Sp := fun vs H Q _ => ∃ z : Str, vs = [.str z] ∧ z.length ≤ 1000 ∧ Pur (.bl (nmB z)) H Q
noncomputable def spAre : Sp := fun vs H Q _ => ∃ (z : Str) (m : Int), vs = [.str z, .int m] ∧ z.length ≤ 1000 ∧ Pur (.bl (decide (((Txt.split z ("." : Str)).length : Int) ≤ m) && (Txt.split z ("." : Str)).all nmB)) H Q
noncomputable def spNum : Sp := fun vs H Q _ => ∃ z : Str, vs = [.str z] ∧ z.length ≤ 10000 ∧ Pur (.bl (numB z)) H Q
noncomputable def spPath : Sp := fun vs H Q _ => ∃ (z : Str) (ys : List Str), vs = [.str z] ∧ z = dotted ys ∧ GoodN ys ∧ ∀ p H', Same H H' → H' p = some (.tup (ys.map V.str)) → Q (.ref p) H'
noncomputable def spReadT : Sp := fun vs H Q _ => ∃ (sg : Int) (th : Thg) (z : Str), vs = [.int sg, .str z] ∧ z = wordOf th ∧ GoodTh th ∧ ∀ v H', Same H H' → TmAt H' v ⟨sg, th⟩ → Q v H'
noncomputable def spSign : Sp := fun vs H Q _ => ∃ s : Int, vs = [.str (sgw s)] ∧ (s = 1 ∨ s = -1) ∧ Pur (.int s) H Q
noncomputable def spRead : Sp := fun vs H Q _ => ∃ ts : List Trm, vs = [.str (textOf ts)] ∧ GoodTs ts ∧ ∀ l H', H l = none → Same H H' → TmsAt H' l ts → Q (.ref l) H'
noncomputable def spTerm : Sp := fun vs H Q _ => ∃ (c : Int) (b : Bool), vs = [.int c, .bl b] ∧ ∀ v H' t, Same H H' → GoodT t → (b = true → t.sg = 1) → TmAt H' v t → Q v H'
noncomputable def spWord : Sp := fun vs H Q _ => ∃ (v : V) (t : Trm), vs = [v] ∧ TmAt H v t ∧ GoodT t ∧ Pur (.str (wordOf t.th)) H Q
noncomputable def spText : Sp := fun vs H Q _ => ∃ (l : Addr) (ts : List Trm), vs = [.ref l] ∧ TmsAt H l ts ∧ GoodTs ts ∧ Pur (.str (textOf ts)) H Q
noncomputable def spWh : Sp := fun vs H Q _ => ∃ i : Int, vs = [.int i] ∧ Pur (.bl true) H Q
noncomputable def spTermIs : Sp := fun vs H Q _ => ∃ (x y : V) (t : Trm), vs = [x, y] ∧ TmAt H x t ∧ TmAt H y t ∧ Pur (.bl true) H Q
noncomputable def spTermsAre : Sp := fun vs H Q _ => ∃ (l r : Addr) (ts : List Trm), vs = [.ref l, .ref r] ∧ TmsAt H l ts ∧ TmsAt H r ts ∧ ts.length ≤ 10 ∧ Pur (.bl true) H Q
noncomputable def spLaw (K : PySem.W.Frag) : Sp := fun vs H Q _ => ∃ (a : Addr) (ns : List Int), vs = [.ref a] ∧ SqL K H a (ns.map V.int) ∧ ns.length ≤ 63 ∧ ∀ H', Q (.bl true) H'
theorem atI_mem {α : Type} {xs : List α} {c k : Int} (h : 0 < xs.length) : ∃ v, atI xs (pick c k (xs.length : Int)) = some v ∧ v ∈ xs := by
  have h1 := pick_ge c k (m := (xs.length : Int)) (by omega)
  have h2 := pick_lt c k (m := (xs.length : Int)) (by omega)
  have hl : (pick c k (xs.length : Int)).toNat < xs.length := by omega
  refine ⟨xs[(pick c k (xs.length : Int)).toNat], ?_, List.getElem_mem hl⟩
  have := atI_nat (List.getElem?_eq_getElem hl)
  rwa [show (((pick c k (xs.length : Int)).toNat : Nat) : Int) = pick c k (xs.length : Int) from by omega] at this
theorem number_ge (c : Int) {far : Int} (h : 0 < far) : 0 ≤ number c far := by unfold number; split <;> exact Int.emod_nonneg _ (by omega)
theorem number_lt (c : Int) {far : Int} (h : 0 < far) : number c far < far := by unfold number; split <;> exact Int.emod_lt_of_pos _ h
theorem small_two {n : Nat} (h : n ≤ 11) : Builtin.Range.small 1 (n : Int) 2 = true := by
  have k : ∀ m : Fin 12, Builtin.Range.small 1 ((m.val : Nat) : Int) 2 = true := by decide +kernel
  exact k ⟨n, by omega⟩
theorem blanklen0 : (((" " : Str)).length == 0) = false := by decide +kernel
theorem big1000 : 1000 ≤ sizeLine := by decide
noncomputable def spShowT : Sp := fun vs H Q _ => ∃ (x : V) (th : Thg), vs = [.str (kindOf th), x] ∧ ThAt H x th ∧ GoodTh th ∧ Pur (.str (wordOf th)) H Q
theorem iteC {c : Bool} {x y : V} {σ : L2.St} {H : Hp} {Q : VK} (h : Q (if c = true then x else y) H) : if c = true then tC x σ H Q else tC y σ H Q := by cases c <;> exact h
theorem sgw_if (s : Int) : (if decide (V.int s = V.int 1) = true then V.str "+" else V.str "-") = V.str (sgw s) := by
  unfold sgw
  by_cases h : s = 1
  · rw [decide_eq_true (congrArg V.int h), if_pos h]; rfl
  · rw [decide_eq_false (fun e => h (V.int.inj e)), if_neg h]; rfl
theorem text_join (ts : List Trm) : Txt.join (" " : Str) (wordsOf ts) = textOf ts := by
  rw [blank_eq]
  exact StrLaws.glued_eq_join _ _
theorem blanklen : ((" " : Str)).length = 1 := by decide +kernel
noncomputable def spLabel : Sp := fun vs H Q _ => ∃ c : Int, vs = [.int c] ∧ ∀ z, IsNm z → Pur (.str z) H Q
noncomputable def spAddr : Sp := fun vs H Q _ => ∃ c : Int, vs = [.int c] ∧ ∀ ys, GoodA ys → Pur (.str (dotted ys)) H Q
noncomputable def spTermsF : Sp := fun vs H Q _ => ∃ c : Int, vs = [.int c] ∧ ∀ l H' ts, H l = none → Same H H' → GoodTs ts → TmsAt H' l ts → Q (.ref l) H'
noncomputable def spSaid : Sp := fun vs H Q _ => ∃ (v : V) (lt : Addr) (r : RowD), vs = [v] ∧ RowTup H v lt r ∧ GoodR r ∧ Pur (.str (saidOf r)) H Q
noncomputable def spIs (C : Nat → Addr) : Sp := fun vs H Q _ => ∃ (a l : Addr) (v : V) (lt : Addr) (r : RowD), vs = [.ref a, v] ∧ RowAt C H a l r ∧ RowTup H v lt r ∧ GoodR r ∧ Pur (.bl true) H Q
noncomputable def spMade (C : Nat → Addr) : Sp := fun vs H Q _ => ∃ (v : V) (lt d : Addr) (r : RowD), vs = [v, .ref d] ∧ RowTup H v lt r ∧ TmsAt H d r.ts ∧ GoodR r ∧ ∀ a l H', Same H H' → H a = none → H l = none → RowAt C H' a l r → Q (.ref a) H'
noncomputable def spIniL (C : Nat → Addr) (i : Nat) : Sp := fun vs H Q _ => ∃ (x dx : Addr) (r : RowD) (d : Addr), vs = [.ref x, .str r.nm, .ref d] ∧ r.so = i ∧ H x = some (.ins (C i) dx []) ∧ TmsAt H d r.ts ∧ r.ts.length ≤ 10 ∧
  ∀ l H', H l = none → SameBut x H H' → RowAt C H' x l r → Q .non H'
noncomputable def spIniA (C : Nat → Addr) (i : Nat) : Sp := fun vs H Q _ => ∃ (x dx : Addr) (r : RowD), vs = [.ref x, .str r.ad, .str r.nm] ∧ r.so = i ∧ H x = some (.ins (C i) dx []) ∧ ∀ H', SameBut x H H' → (∀ l, RowAt C H' x l r) → Q .non H'
noncomputable def spIniT (C : Nat → Addr) : Sp := fun vs H Q _ => ∃ (x dx : Addr) (r : RowD), vs = [.ref x, .str r.wd, .str r.ad, .str r.nm] ∧ r.so = 4 ∧ H x = some (.ins (C 4) dx []) ∧ ∀ H', SameBut x H H' → (∀ l, RowAt C H' x l r) → Q .non H'
noncomputable def spIniN (C : Nat → Addr) : Sp := fun vs H Q _ => ∃ (x dx : Addr) (r : RowD) (d : Addr), vs = [.ref x, .ref d] ∧ r.so = 5 ∧ H x = some (.ins (C 5) dx []) ∧ TmsAt H d r.ts ∧ r.ts.length ≤ 10 ∧
  ∀ l H', H l = none → SameBut x H H' → RowAt C H' x l r → Q .non H'
noncomputable def spRet0 : Sp := fun vs H Q _ => ∃ v : V, vs = [v] ∧ Pur (.str "") H Q
noncomputable def spAsk0 : Sp := fun vs H Q _ => ∃ v : V, vs = [v] ∧ ∀ b H', H b = none → Same H H' → H' b = some (.lst []) → Q (.ref b) H'
noncomputable def spB (C : Nat → Addr) (i : Nat) : Sp := fun vs H Q _ => ∃ (a l : Addr) (r : RowD), vs = [.ref a] ∧ r.so = i ∧ RowAt C H a l r ∧ Pur (.str r.nm) H Q
noncomputable def spA (C : Nat → Addr) (i : Nat) : Sp := fun vs H Q _ => ∃ (a l : Addr) (r : RowD), vs = [.ref a] ∧ r.so = i ∧ RowAt C H a l r ∧ ∀ b H', H b = none → Same H H' → H' b = some (.lst [.str r.ad]) → Q (.ref b) H'
noncomputable def spS (C : Nat → Addr) (i : Nat) : Sp := fun vs H Q _ => ∃ (a l : Addr) (r : RowD), vs = [.ref a] ∧ r.so = i ∧ RowAt C H a l r ∧ GoodR r ∧ Pur (.str (saidOf r)) H Q
structure RFam (K : PySem.W.Frag) (C : Nat → Addr) : Prop where
  c : ∀ i, i ≤ 6 → RCl K (C i)
  kit : ∀ i j, i ≤ 6 → j ≤ 6 → PySem.W.kitOne K (.ref (C i)) (.ref (C j)) = some (kitv i j)
  nn : ∀ i, i ≤ 6 → NoAttr K (C i) "name"
  nt : ∀ i, i ≤ 6 → NoAttr K (C i) "terms"
  na : ∀ i, i ≤ 6 → NoAttr K (C i) "address"
  nw : ∀ i, i ≤ 6 → NoAttr K (C i) "word"
theorem isNm_of {z : Str} (h : (decide (1 ≤ z.length) && decide (z.length ≤ 8) && z.cps.toList.all fun n => decide (97 ≤ n) && decide (n ≤ 122)) = true) : IsNm z := by
  simp only [Bool.and_eq_true, decide_eq_true_eq, List.all_eq_true] at h
  exact ⟨h.1.1, h.1.2, fun n hn => h.2 n hn⟩
theorem own_word {v : V} (h : v ∈ [V.str "let", V.str "deed", V.str "be", V.str "draw", V.str "late", V.str "as", V.str "take", V.str "from", V.str "need", V.str "part"]) : ∃ z, v = .str z ∧ IsNm z := by
  simp only [List.mem_cons, List.not_mem_nil, or_false] at h
  rcases h with rfl | rfl | rfl | rfl | rfl | rfl | rfl | rfl | rfl | rfl
  all_goals exact ⟨_, rfl, isNm_of (by decide +kernel)⟩
theorem map_of {xs : List V} {ys : List Str} (hl : ys.length = xs.length) (h : ∀ (i : Nat) v, xs[i]? = some v → ∃ z, ys[i]? = some z ∧ v = .str z) : xs = ys.map V.str := by
  apply List.ext_getElem?
  intro i
  rw [List.getElem?_map]
  cases e : xs[i]? with
  | none =>
    have e2 : ys[i]? = none := by
      rw [List.getElem?_eq_none_iff] at e ⊢
      omega
    rw [e2]; rfl
  | some v =>
    obtain ⟨z, ez, rfl⟩ := h i v e
    rw [ez]; rfl
theorem names_of {xs : List V} (h : ∀ (i : Nat) v, xs[i]? = some v → ∃ z, v = V.str z ∧ IsNm z) : ∃ ys : List Str, ys.length = xs.length ∧ xs = ys.map V.str ∧ ∀ y ∈ ys, IsNm y := by
  obtain ⟨ys, hyl, hys⟩ := choose_list (fun _ v z => v = V.str z ∧ IsNm z) xs 0 (fun i v e => h i v e)
  refine ⟨ys, hyl, map_of hyl fun i v e => ?_, fun y hy => ?_⟩
  · obtain ⟨z, ez, rz, _⟩ := hys i v e
    exact ⟨z, ez, rz⟩
  · obtain ⟨i, hi, e⟩ := List.getElem_of_mem hy
    have hx : xs[i]? = some (xs[i]'(by omega)) := List.getElem?_eq_getElem (by omega)
    obtain ⟨z, ez, _, nz⟩ := hys i _ hx
    rw [List.getElem?_eq_getElem hi, e] at ez
    cases ez
    exact nz
theorem ThAt.unc {H : Hp} {x : V} {th : Thg} (h : ThAt H x th) : ThAt H x (uncT th) := by
  cases th with
  | num m => exact h
  | nms c ys => exact h
theorem sF (i j : Nat) (h : kitv i j = false := by rfl) (hi : i ≤ 5 := by decide) (hj : j ≤ 5 := by decide) : decide (V.str (sortW i) = V.str (sortW j)) = false := (sort_dec hi hj).trans h
theorem sT (i : Nat) : decide (V.str (sortW i) = V.str (sortW i)) = true := decide_eq_true rfl
theorem sort_at {i : Nat} {x : V} (h : ([V.str "let", V.str "deed", V.str "draw", V.str "late", V.str "take", V.str "need"] : List V)[i]? = some x) : i ≤ 5 ∧ x = V.str (sortW i) := by
  match i, h with
  | 0, h => cases h; exact ⟨by decide, rfl⟩
  | 1, h => cases h; exact ⟨by decide, rfl⟩
  | 2, h => cases h; exact ⟨by decide, rfl⟩
  | 3, h => cases h; exact ⟨by decide, rfl⟩
  | 4, h => cases h; exact ⟨by decide, rfl⟩
  | 5, h => cases h; exact ⟨by decide, rfl⟩
  | n + 6, h => simp at h
theorem six {n : Nat} (h : n ≤ 5) : n = 0 ∨ n = 1 ∨ n = 2 ∨ n = 3 ∨ n = 4 ∨ n = 5 := by
  cases n with
  | zero => exact .inl rfl
  | succ n => cases n with
    | zero => exact .inr (.inl rfl)
    | succ n => cases n with
      | zero => exact .inr (.inr (.inl rfl))
      | succ n => cases n with
        | zero => exact .inr (.inr (.inr (.inl rfl)))
        | succ n => cases n with
          | zero => exact .inr (.inr (.inr (.inr (.inl rfl))))
          | succ n => cases n with
            | zero => exact .inr (.inr (.inr (.inr (.inr rfl))))
            | succ n => exact absurd h (by omega)
theorem sort_pick {k : Int} (h0 : 0 ≤ k) (h1 : k < 6) : atI [V.str "let", V.str "deed", V.str "draw", V.str "late", V.str "take", V.str "need"] k = some (V.str (sortW k.toNat)) := by
  obtain ⟨n, rfl⟩ := Int.eq_ofNat_of_zero_le h0
  have hn : n ≤ 5 := by omega
  rcases six hn with rfl | rfl | rfl | rfl | rfl | rfl <;> rfl
noncomputable def dal : List V := [V.str "draw", V.str "late", V.str "take"]
noncomputable def inD (i : Nat) : Bool := decide (i = 2) || decide (i = 3) || decide (i = 4)
theorem inV_so {i : Nat} (h : i ≤ 5) : inV (V.str (sortW i)) dal = inD i := by
  have k : ∀ i : Fin 6, inV (V.str (sortW i.val)) dal = inD i.val := by decide +kernel
  exact k ⟨i, by omega⟩
theorem due_eq {r : RowD} (h : r.so ≤ 5) {k : Bool} (hk : k = inV (V.str (sortW r.so)) dal) : (List.replicate (if k = true then (1 : Int) else 0).toNat [V.str r.ad]).flatten = (askedOf r).map V.str := by
  obtain ⟨so, nn, aa, ww, tt⟩ := r
  have h' : so ≤ 5 := h
  have hk' : k = inD so := hk.trans (inV_so h')
  subst hk'
  rcases six h' with rfl | rfl | rfl | rfl | rfl | rfl <;> rfl
theorem rep_bound {x : V} (k : Bool) : ([x] : List V).length * (if k = true then (1 : Int) else 0).toNat ≤ sizeLine := by
  cases k
  · show 1 * 0 ≤ sizeLine; decide
  · show 1 * 1 ≤ sizeLine; decide
theorem rep_lo (k : Bool) : -(2 ^ 63) ≤ (if k = true then (1 : Int) else 0) := by cases k <;> decide
theorem rep_hi (k : Bool) : (if k = true then (1 : Int) else 0) < 2 ^ 63 := by cases k <;> decide
theorem new_ins {H : Hp} {C x dx : Addr} (hx : H x = none) (hdx : H dx = none) : Same H (upd (upd H dx (.own x)) x (.ins C dx [])) := fun b o e => by
  rw [upd_ne (ne_of_none e hx), upd_ne (ne_of_none e hdx)]
  exact e
theorem j_let : (("let" : Str) ++ (" " : Str)) = "let " := by decide +kernel
theorem j_deed : (("deed" : Str) ++ (" " : Str)) = "deed " := by decide +kernel
theorem j_draw : (("draw" : Str) ++ (" " : Str)) = "draw " := by decide +kernel
theorem j_late : (("late" : Str) ++ (" " : Str)) = "late " := by decide +kernel
theorem len_sp : ((" " : Str)).length = 1 := by decide +kernel
theorem lw_let : (sortW 0).length = 3 := by decide +kernel
theorem lw_deed : (sortW 1).length = 4 := by decide +kernel
theorem lw_draw : (sortW 2).length = 4 := by decide +kernel
theorem lw_late : (sortW 3).length = 4 := by decide +kernel
noncomputable def isCall (t : Trm) : Bool := match t.th with | .nms c _ => c | .num _ => false
theorem kind_call (t : Trm) : decide (V.str (kindOf t.th) = V.str "call") = isCall t := by
  unfold isCall
  cases t.th with
  | num m => exact decide_eq_false (by show ¬ V.str "number" = V.str "call"; decide +kernel)
  | nms c ys =>
    cases c
    · exact decide_eq_false (by show ¬ V.str "path" = V.str "call"; decide +kernel)
    · exact decide_eq_true rfl
noncomputable def spHas : Sp := fun vs H Q _ => ∃ (l : Addr) (ts : List Trm), vs = [.ref l] ∧ TmsAt H l ts ∧ ts.length ≤ 10 ∧ Pur (.bl (ts.any isCall)) H Q
theorem any_range {ts : List Trm} : ((List.range ts.length).map fun i => (ts[i]?).elim false isCall).any id = ts.any isCall := by
  have e : (List.range ts.length).map (fun i => (ts[i]?).elim false isCall) = ts.map isCall := by
    apply List.ext_getElem
    · simp
    · intro i h1 h2
      have : i < ts.length := by simpa using h1
      simp [this]
  rw [e, List.any_map]
  rfl
noncomputable def spIsA : Sp := fun vs H Q _ => ∃ ys : List Str, vs = [.str (dotted ys)] ∧ GoodA ys ∧ Pur (.bl true) H Q
noncomputable def spNE : Sp := fun vs H Q _ => ∃ (l : Addr) (w0 nn : Str) (rest : List Str), vs = [.ref l] ∧ H l = some (.lst ((w0 :: nn :: ("be" : Str) :: rest).map V.str)) ∧ IsNm nn ∧ rest ≠ [] ∧ Pur (.bl true) H Q
noncomputable def spNA : Sp := fun vs H Q _ => ∃ (l : Addr) (w0 : Str) (ys : List Str) (nn : Str), vs = [.ref l] ∧ H l = some (.lst ([w0, dotted ys, ("as" : Str), nn].map V.str)) ∧ GoodA ys ∧ IsNm nn ∧ Pur (.bl true) H Q
noncomputable def spNW : Sp := fun vs H Q _ => ∃ (l : Addr) (w0 ww : Str) (ys : List Str) (nn : Str), vs = [.ref l] ∧ H l = some (.lst ([w0, ww, ("from" : Str), dotted ys, ("as" : Str), nn].map V.str)) ∧ IsNm ww ∧ GoodA ys ∧ IsNm nn ∧ Pur (.bl true) H Q
noncomputable def spTF : Sp := fun vs H Q _ => ∃ (l : Addr) (k : Nat) (ws : List Str) (ts : List Trm), vs = [.ref l, .int (k : Int)] ∧ H l = some (.lst (ws.map V.str)) ∧ ws.drop k = wordsOf ts ∧ GoodTs ts ∧ ∀ l' H', H l' = none → Same H H' → TmsAt H' l' ts → Q (.ref l') H'
noncomputable def MadeQ (C : Nat → Addr) (H : Hp) (r : RowD) (Q : VK) : Prop := ∀ a l H', Same H H' → H a = none → H l = none → RowAt C H' a l r → Q (.ref a) H'
noncomputable def spDO (C : Nat → Addr) : Sp := fun vs H Q _ => ∃ (r : RowD) (d : Addr), vs = [.str r.nm, .ref d] ∧ r.so = 1 ∧ GoodR r ∧ TmsAt H d r.ts ∧ MadeQ C H r Q
noncomputable def spRO (C : Nat → Addr) : Sp := fun vs H Q _ => ∃ (l : Addr) (r : RowD), vs = [.ref l] ∧ H l = some (.lst ((wordsR r).map V.str)) ∧ GoodR r ∧ MadeQ C H r Q
noncomputable def spRA (C : Nat → Addr) : Sp := fun vs H Q _ => ∃ (r : RowD) (i : Int), vs = [.str (saidOf r), .int i] ∧ GoodR r ∧ MadeQ C H r Q
theorem no_call {r : RowD} (g : GoodR r) (h : r.so = 1) : r.ts.any isCall = false := by
  rw [List.any_eq_false]
  intro t ht k
  unfold isCall at k
  cases e : t.th with
  | num m => rw [e] at k; cases k
  | nms c ys =>
    rw [e] at k
    cases c with
    | true => exact g.dd h t ht ys e
    | false => cases k
structure PFam (K : PySem.W.Frag) (C : Addr) : Prop where
  cl : RCl K C
  na : NoAttr K C "address"
  nr : NoAttr K C "rows"
  kit : PySem.W.kitOne K (.ref C) (.ref C) = some true
structure GoodRs (rs : List RowD) : Prop where
  hi : rs.length ≤ 12
  ok : ∀ r ∈ rs, GoodR r
theorem GoodRs.at {rs : List RowD} (g : GoodRs rs) {i : Nat} {r : RowD} (h : rs[i]? = some r) : GoodR r := g.ok r (List.mem_of_getElem? h)
noncomputable def RowsAt (C : Nat → Addr) (H : Hp) (l : Addr) (rs : List RowD) : Prop := ∃ xs : List V, H l = some (.lst xs) ∧ xs.length = rs.length ∧ ∀ (i : Nat) r, rs[i]? = some r → ∃ a t, xs[i]? = some (.ref a) ∧ RowAt C H a t r
theorem RowsAt.same {C : Nat → Addr} {H H' : Hp} {l : Addr} {rs : List RowD} (h : RowsAt C H l rs) (s : Same H H') : RowsAt C H' l rs := by
  obtain ⟨xs, hl, hn, hx⟩ := h
  refine ⟨xs, s _ _ hl, hn, fun i r e => ?_⟩
  obtain ⟨a, t, e2, ra⟩ := hx i r e
  exact ⟨a, t, e2, ra.same s⟩
noncomputable def PartAt (C : Nat → Addr) (H : Hp) (p : Addr) (ad : Str) (l : Addr) (rs : List RowD) : Prop := ∃ dx fs, H p = some (.ins (C 7) dx fs) ∧ fs.lookup ("address" : Str) = some (.str ad) ∧ fs.lookup ("rows" : Str) = some (.ref l) ∧
  fs.lookup ("bound" : Str) = none ∧ fs.lookup ("place_of" : Str) = none ∧ fs.lookup ("text" : Str) = none ∧ RowsAt C H l rs
theorem PartAt.same {C : Nat → Addr} {H H' : Hp} {p : Addr} {ad : Str} {l : Addr} {rs : List RowD} (h : PartAt C H p ad l rs) (s : Same H H') : PartAt C H' p ad l rs := by
  obtain ⟨dx, fs, e, a1, a2, a3, a4, a5, r⟩ := h
  exact ⟨dx, fs, s _ _ e, a1, a2, a3, a4, a5, r.same s⟩
theorem TmsAt.but {H H' : Hp} {l x C dx : Addr} {ts : List Trm} {fs : List (Str × V)} (h : TmsAt H l ts) (hx : H x = some (.ins C dx fs)) (s : SameBut x H H') : TmsAt H' l ts := by
  obtain ⟨xs, hl, hn, ht⟩ := h
  refine ⟨xs, s _ _ hl (ne_of hl hx (by intro z; cases z)), hn, fun i v e => ?_⟩
  obtain ⟨t, et, tm⟩ := ht i v e
  exact ⟨t, et, tm.but hx s⟩
theorem RowAt.but {C : Nat → Addr} {H H' : Hp} {a t x D dx : Addr} {r : RowD} (h : RowAt C H a t r) (g : GoodR r) (hx : H x = some (.ins D dx [])) (s : SameBut x H H') : RowAt C H' a t r := by
  obtain ⟨dy, fs, e, f⟩ := h
  have ne : a ≠ x := fun z => by
    rw [z, hx] at e
    cases e
    rcases Nat.lt_or_ge r.so 5 with k | k
    · exact absurd (f.nm k) (by intro z; cases z)
    · exact absurd (f.tm (.inr (.inr (Nat.le_antisymm g.so k)))).1 (by intro z; cases z)
  exact ⟨dy, fs, s _ _ e ne, f.nm, fun k => ⟨(f.tm k).1, (f.tm k).2.but hx s⟩, f.ad, f.wd, f.nb, f.na, f.ns⟩
noncomputable def isE (v : V) : Bool := !decide (v = .str "")
noncomputable def namesV (rs : List RowD) : List V := (rs.map fun r => V.str r.nm).filter isE
noncomputable def placeV (rs : List RowD) (z : Str) : V := if z = "" then .non else match rs.findIdx? (fun r => decide (r.nm = z)) with | some i => .int (i : Nat) | none => .non
theorem place_at {rs : List RowD} {z : Str} {i : Nat} {r : RowD} (h : rs[i]? = some r) (e : r.nm = z) (hz : ¬ z = "") (hb : ∀ (j : Nat) r, j < i → rs[j]? = some r → ¬ r.nm = z) : placeV rs z = .int (i : Nat) := by
  unfold placeV
  have hi := (List.getElem?_eq_some_iff.mp h).1
  have f : rs.findIdx? (fun r => decide (r.nm = z)) = some i := by
    rw [List.findIdx?_eq_some_iff_getElem]
    refine ⟨hi, ?_, fun j hj => ?_⟩
    · rw [List.getElem?_eq_getElem hi] at h
      cases h
      exact decide_eq_true e
    · have := hb j _ hj (List.getElem?_eq_getElem (Nat.lt_trans hj hi))
      simpa using this
  rw [if_neg hz, f]
theorem place_no {rs : List RowD} {z : Str} (hz : ¬ z = "") (hb : ∀ (j : Nat) r, rs[j]? = some r → ¬ r.nm = z) : placeV rs z = .non := by
  unfold placeV
  have f : rs.findIdx? (fun r => decide (r.nm = z)) = none := by
    rw [List.findIdx?_eq_none_iff]
    intro r hr
    obtain ⟨i, hi, e⟩ := List.getElem_of_mem hr
    exact decide_eq_false (hb i r (by rw [List.getElem?_eq_getElem hi, e]))
  rw [if_neg hz, f]
theorem len_part : (("part " : Str)).length = 5 := by decide +kernel
theorem cd_part : (("part " : Str)).cps.toList = (("part" : Str)).cps.toList ++ [32] := by decide +kernel
theorem head_join {ys : List Str} : ("part " : Str) ++ dotted ys = Str.join ⟨#[32]⟩ [("part" : Str), dotted ys] := by
  apply strExt
  rw [join_codes, strApp, cd_part, List.map_cons, List.map_cons, List.map_nil, inter_cons 32 _ (by simp), inter_one]
  simp only [List.append_assoc, List.cons_append, List.nil_append]
theorem head_split {ys : List Str} (g : GoodA ys) : Txt.split (("part " : Str) ++ dotted ys) (" " : Str) = [("part" : Str), dotted ys] := by
  rw [head_join, show (" " : Str) = ⟨#[32]⟩ from by decide +kernel]
  refine split_join 32 _ (by simp) fun y hy => ?_
  simp only [List.mem_cons, List.not_mem_nil, or_false] at hy
  rcases hy with rfl | rfl
  · decide +kernel
  · exact free_ad g
noncomputable def partText (ad : Str) (rs : List RowD) : Str := Txt.join ("\n" : Str) (("part " ++ ad) :: rs.map saidOf)
theorem nl_eq : (("\n" : Str)) = ⟨#[10]⟩ := by decide +kernel
theorem nl_len : (("\n" : Str)).length = 1 := by decide +kernel
theorem nl_len0 : ((("\n" : Str)).length == 0) = false := by decide +kernel
theorem lines_le {ad : Str} {rs : List RowD} (g : GoodRs rs) (h : ad.length ≤ 36) : ∀ y ∈ ("part " ++ ad) :: rs.map saidOf, y.length ≤ 1000 := fun y hy => by
  cases hy with
  | head => rw [appLen, len_part]; omega
  | tail _ hy =>
    obtain ⟨r, hr, rfl⟩ := List.mem_map.mp hy
    exact said_len (g.ok r hr)
theorem part_bound {ad : Str} {rs : List RowD} (g : GoodRs rs) (h : ad.length ≤ 36) : ((("part " ++ ad) :: rs.map saidOf).map (·.length)).sum + (("part " ++ ad) :: rs.map saidOf).length * (("\n" : Str)).length ≤ 16777216 := by
  have h1 := sum_le (lines_le g h)
  have h2 : (("part " ++ ad) :: rs.map saidOf).length ≤ 13 := by rw [List.length_cons, List.length_map]; exact Nat.succ_le_succ g.hi
  rw [nl_len]
  omega
theorem join_nl (ys : List Str) : Txt.join ("\n" : Str) ys = Str.join ⟨#[10]⟩ ys := by
  rw [nl_eq]
  exact StrLaws.glued_eq_join _ _
theorem text_le {ad : Str} {rs : List RowD} (g : GoodRs rs) (h : ad.length ≤ 36) : (partText ad rs).length + 2 ≤ sizeLine := by
  have h0 := StrLaws.join_length_le ⟨#[10]⟩ (("part " ++ ad) :: rs.map saidOf)
  have h1 := part_bound g h
  have h2 : (("part " ++ ad) :: rs.map saidOf).length ≤ 13 := by rw [List.length_cons, List.length_map]; exact Nat.succ_le_succ g.hi
  have h3 := sum_le (lines_le g h)
  have e1 : (⟨#[10]⟩ : Str).length = 1 := rfl
  rw [e1] at h0
  have e : (partText ad rs).length ≤ 14000 := by
    unfold partText
    rw [join_nl]
    omega
  exact Nat.le_trans (Nat.add_le_add_right e 2) (by decide)
theorem ten_nm {z : Str} (h : IsNm z) : 10 ∉ z.cps.toList := fun k => by have := h.ok 10 k; omega
theorem ten_ad {ys : List Str} (h : GoodA ys) : 10 ∉ (dotted ys).cps.toList := fun k => by
  rcases dotted_codes h.nm k with e | e
  · cases e
  · omega
theorem ten_th {th : Thg} (h : GoodTh th) : 10 ∉ (wordOf th).cps.toList := by
  cases th with
  | num m =>
    intro z
    have := digit_range z
    omega
  | nms c ys =>
    have key : 10 ∉ (dotted ys).cps.toList := fun z => by have := dotted_codes (GoodN.nm h) z; omega
    cases c with
    | true =>
      show 10 ∉ (dotted ys ++ brk).cps.toList
      rw [strApp, brk_codes]
      intro z
      rcases List.mem_append.mp z with z | z
      · exact key z
      · simp at z
    | false => exact key
theorem ten_words {ts : List Trm} (h : GoodTs ts) {y : Str} (hy : y ∈ wordsOf ts) : 10 ∉ y.cps.toList := by
  rcases wordsOf_mem hy with ⟨t, ht, rfl⟩ | ⟨t, ht, rfl⟩
  · exact ten_th (h.ok t ht).th
  · rcases sgw_codes t.sg with e | e <;> rw [e] <;> decide
theorem ten_said {r : RowD} (g : GoodR r) : 10 ∉ (saidOf r).cps.toList := by
  rw [said_join g, join_codes]
  intro k
  rcases inter_mem k with e | ⟨c, hc, e⟩
  · exact absurd e (by decide)
  · obtain ⟨y, hy, rfl⟩ := List.mem_map.mp hc
    obtain ⟨so, nn, aa, ww, tt⟩ := r
    have h5 : so ≤ 5 := g.so
    obtain ⟨ys, ga, ea⟩ := g.ad
    have ea : aa = dotted ys := ea
    subst ea
    have gt : GoodTs tt := g.ts
    have gw : IsNm ww := g.wd
    rcases six h5 with rfl | rfl | rfl | rfl | rfl | rfl
    · have hy : y ∈ ("let" : Str) :: nn :: "be" :: wordsOf tt := hy
      simp only [List.mem_cons] at hy
      rcases hy with rfl | rfl | rfl | hy
      · exact absurd e (by decide +kernel)
      · exact ten_nm (g.nm (show 0 < 5 by decide)) e
      · exact absurd e (by decide +kernel)
      · exact ten_words gt hy e
    · have hy : y ∈ ("deed" : Str) :: nn :: "be" :: wordsOf tt := hy
      simp only [List.mem_cons] at hy
      rcases hy with rfl | rfl | rfl | hy
      · exact absurd e (by decide +kernel)
      · exact ten_nm (g.nm (show 1 < 5 by decide)) e
      · exact absurd e (by decide +kernel)
      · exact ten_words gt hy e
    · have hy : y ∈ [("draw" : Str), dotted ys, "as", nn] := hy
      simp only [List.mem_cons, List.not_mem_nil, or_false] at hy
      rcases hy with rfl | rfl | rfl | rfl
      · exact absurd e (by decide +kernel)
      · exact ten_ad ga e
      · exact absurd e (by decide +kernel)
      · exact ten_nm (g.nm (show 2 < 5 by decide)) e
    · have hy : y ∈ [("late" : Str), dotted ys, "as", nn] := hy
      simp only [List.mem_cons, List.not_mem_nil, or_false] at hy
      rcases hy with rfl | rfl | rfl | rfl
      · exact absurd e (by decide +kernel)
      · exact ten_ad ga e
      · exact absurd e (by decide +kernel)
      · exact ten_nm (g.nm (show 3 < 5 by decide)) e
    · have hy : y ∈ [("take" : Str), ww, "from", dotted ys, "as", nn] := hy
      simp only [List.mem_cons, List.not_mem_nil, or_false] at hy
      rcases hy with rfl | rfl | rfl | rfl | rfl | rfl
      · exact absurd e (by decide +kernel)
      · exact ten_nm gw e
      · exact absurd e (by decide +kernel)
      · exact ten_ad ga e
      · exact absurd e (by decide +kernel)
      · exact ten_nm (g.nm (show 4 < 5 by decide)) e
    · have hy : y ∈ ("need" : Str) :: wordsOf tt := hy
      simp only [List.mem_cons] at hy
      rcases hy with rfl | hy
      · exact absurd e (by decide +kernel)
      · exact ten_words gt hy e
theorem ptext_split {ys : List Str} {rs : List RowD} (g : GoodRs rs) (ga : GoodA ys) : Txt.split (partText (dotted ys) rs) ("\n" : Str) = ("part " ++ dotted ys) :: rs.map saidOf := by
  unfold partText
  rw [join_nl, nl_eq]
  refine split_join 10 _ (by simp) fun y hy => ?_
  cases hy with
  | head =>
    rw [strApp]
    intro k
    rcases List.mem_append.mp k with k | k
    · exact absurd k (by decide +kernel)
    · exact ten_ad ga k
  | tail _ hy =>
    obtain ⟨r, hr, rfl⟩ := List.mem_map.mp hy
    exact ten_said (g.ok r hr)
noncomputable def spPIni (C : Nat → Addr) : Sp := fun vs H Q _ => ∃ (x dx : Addr) (ad : Str) (d : Addr) (rs : List RowD), vs = [.ref x, .str ad, .ref d] ∧ H x = some (.ins (C 7) dx []) ∧ RowsAt C H d rs ∧ GoodRs rs ∧
  ∀ l H', H l = none → SameBut x H H' → PartAt C H' x ad l rs → Q .non H'
noncomputable def spBound (C : Nat → Addr) : Sp := fun vs H Q _ => ∃ (p : Addr) (ad : Str) (l : Addr) (rs : List RowD), vs = [.ref p] ∧ PartAt C H p ad l rs ∧ GoodRs rs ∧ ∀ b H', H b = none → Same H H' → H' b = some (.lst (namesV rs)) → Q (.ref b) H'
noncomputable def spPlace (C : Nat → Addr) : Sp := fun vs H Q _ => ∃ (p : Addr) (ad : Str) (l : Addr) (rs : List RowD) (z : Str), vs = [.ref p, .str z] ∧ PartAt C H p ad l rs ∧ GoodRs rs ∧ Pur (placeV rs z) H Q
noncomputable def spPText (C : Nat → Addr) : Sp := fun vs H Q _ => ∃ (p : Addr) (ad : Str) (l : Addr) (rs : List RowD), vs = [.ref p] ∧ PartAt C H p ad l rs ∧ GoodRs rs ∧ ad.length ≤ 36 ∧ Pur (.str (partText ad rs)) H Q
noncomputable def spHead : Sp := fun vs H Q _ => ∃ ys : List Str, vs = [.str ("part " ++ dotted ys)] ∧ GoodA ys ∧ Pur (.str (dotted ys)) H Q
noncomputable def Apart (rs : List RowD) : Prop := ∀ (i j : Nat) r q, rs[i]? = some r → rs[j]? = some q → r.nm = q.nm → r.nm ≠ "" → i = j
noncomputable def spReadP (C : Nat → Addr) : Sp := fun vs H Q _ => ∃ (ys : List Str) (rs : List RowD), vs = [.str (partText (dotted ys) rs)] ∧ GoodA ys ∧ GoodRs rs ∧ Apart rs ∧ ∀ p l H', Same H H' → H p = none → H l = none → PartAt C H' p (dotted ys) l rs → Q (.ref p) H'
noncomputable def spNames : Sp := fun vs H Q _ => ∃ c : Int, vs = [.int c, .int 12] ∧ ∀ l H' (zs : List Str), H l = none → Same H H' → zs.length = 12 → zs.Nodup → (∀ z ∈ zs, IsNm z) → H' l = some (.lst (zs.map V.str)) → Q (.ref l) H'
noncomputable def spRow4 : Sp := fun vs H Q _ => ∃ (c : Int) (z : Str), vs = [.int c, .str z] ∧ IsNm z ∧ ∀ v lt H' r, GoodR r → (r.so < 5 → r.nm = z) → Same H H' → H lt = none → RowTup H' v lt r → Q v H'
noncomputable def spStrange : Sp := fun vs H Q _ => ∃ (l : Addr) (zs : List V), vs = [.ref l] ∧ H l = some (.lst zs) ∧ zs.length ≤ 12 ∧ zs.all flatV = true ∧ ∀ z : Str, V.str z ∉ zs → z ≠ "" → Pur (.str z) H Q
noncomputable def TupsAt (H : Hp) (l : Addr) (rs : List RowD) : Prop := ∃ xs : List V, H l = some (.lst xs) ∧ xs.length = rs.length ∧ ∀ (i : Nat) r, rs[i]? = some r → ∃ v t, xs[i]? = some v ∧ RowTup H v t r
theorem TupsAt.same {H H' : Hp} {l : Addr} {rs : List RowD} (h : TupsAt H l rs) (s : Same H H') : TupsAt H' l rs := by
  obtain ⟨xs, hl, hn, hx⟩ := h
  refine ⟨xs, s _ _ hl, hn, fun i r e => ?_⟩
  obtain ⟨a, t, e2, ra⟩ := hx i r e
  exact ⟨a, t, e2, ra.same s⟩
noncomputable def spHolds (C : Nat → Addr) : Sp := fun vs H Q _ => ∃ (p : Addr) (ad : Str) (l lr : Addr) (rs : List RowD), vs = [.ref p, .str ad, .ref lr] ∧ PartAt C H p ad l rs ∧ TupsAt H lr rs ∧ GoodRs rs ∧ Apart rs ∧ Pur (.bl true) H Q
theorem GoodRs.take {rs : List RowD} (g : GoodRs rs) (i : Nat) : GoodRs (rs.take i) := ⟨Nat.le_trans (List.length_take_le' i rs) g.hi, fun r hr => g.ok r (List.mem_of_mem_take hr)⟩
theorem namesV_mem {rs : List RowD} {v : V} (h : v ∈ namesV rs) : ∃ r ∈ rs, v = .str r.nm ∧ r.nm ≠ "" := by
  obtain ⟨h1, h2⟩ := List.mem_filter.mp h
  obtain ⟨r, hr, rfl⟩ := List.mem_map.mp h1
  refine ⟨r, hr, rfl, fun e => ?_⟩
  rw [e] at h2
  exact absurd h2 (by decide +kernel)
theorem namesV_flat (rs : List RowD) : (namesV rs).all flatV = true := by
  rw [List.all_eq_true]
  intro v hv
  obtain ⟨r, _, rfl, _⟩ := namesV_mem hv
  rfl
theorem inV_no {x : Str} {xs : List V} (h : ∀ v ∈ xs, ∃ z, v = .str z ∧ z ≠ x) : inV (.str x) xs = false := by
  unfold inV
  rw [List.any_eq_false]
  intro v hv k
  obtain ⟨z, rfl, hz⟩ := h v hv
  exact hz (by simpa [eqV] using k)
theorem not_named {rs : List RowD} (ap : Apart rs) {i : Nat} {r : RowD} (h : rs[i]? = some r) : inV (.str r.nm) (namesV (rs.take i)) = false := inV_no fun v hv => by
  obtain ⟨q, hq, rfl, hn⟩ := namesV_mem hv
  refine ⟨_, rfl, fun e => ?_⟩
  obtain ⟨j, hj, ej⟩ := List.getElem_of_mem hq
  have hji : j < i := Nat.lt_of_lt_of_le hj (List.length_take_le i rs)
  have e2 : rs[j]? = some q := by
    have : (rs.take i)[j]? = some q := by rw [List.getElem?_eq_getElem hj, ej]
    rw [List.getElem?_take] at this
    simpa [hji] using this
  exact absurd (ap j i q r e2 h e hn) (Nat.ne_of_lt hji)
theorem take_at {rs : List RowD} {i j : Nat} {r : RowD} (h : (rs.take i)[j]? = some r) : j < i ∧ rs[j]? = some r := by
  rw [List.getElem?_take] at h
  by_cases k : j < i
  · exact ⟨k, by simpa [k] using h⟩
  · rw [if_neg k] at h; cases h
theorem deq_refl {K : PySem.W.Frag} {H : Hp} {n : Nat} {v : V} (h : flatV v = true ∨ ∃ p, v = .ref p) : DEq K H n v v := by
  rcases h with h | ⟨p, rfl⟩
  · cases v with
    | non => exact .non
    | bl b => exact .bl b
    | int i => exact .int i
    | str x => exact .str x
    | _ => cases h
  · exact .same p
theorem dsq_same {K : PySem.W.Frag} {H : Hp} {a b : Addr} {xs : List V} (ha : H a = some (.lst xs)) (hb : H b = some (.lst xs)) (h : ∀ v ∈ xs, flatV v = true ∨ ∃ p, v = .ref p) : DSq K H a b :=
  ⟨0, xs, xs, by decide, rfl, .inr ⟨SqL.of ha, SqL.of hb⟩, fun i x y ex ey => by rw [ex] at ey; cases ey; exact deq_refl (h x (List.mem_of_getElem? ex))⟩
theorem dsq_names {K : PySem.W.Frag} {H : Hp} {a b : Addr} {rs : List RowD} (ha : H a = some (.lst (namesV rs))) (hb : H b = some (.lst (namesV rs))) : DSq K H a b :=
  dsq_same ha hb fun v hv => .inl (List.all_eq_true.mp (namesV_flat rs) v hv)
theorem namesV_len {rs : List RowD} (hg : GoodRs rs) : (namesV rs).length ≤ 12 := by
  have h1 := List.length_filter_le isE (rs.map fun r => V.str r.nm)
  rw [List.length_map] at h1
  exact Nat.le_trans h1 hg.hi
theorem namesV_has {rs : List RowD} {j : Nat} {r : RowD} (h : rs[j]? = some r) (hn : r.nm ≠ "") : V.str r.nm ∈ namesV rs := by
  refine List.mem_filter.mpr ⟨List.mem_map.mpr ⟨r, List.mem_of_getElem? h, rfl⟩, ?_⟩
  unfold isE
  rw [decide_eq_false fun z => hn (V.str.inj z)]
  rfl
theorem place_str {rs : List RowD} {z : Str} (h : V.str z ∉ namesV rs) (hz : z ≠ "") : placeV rs z = .non :=
  place_no hz fun j r e k => h (by rw [← k]; exact namesV_has e (by rw [k]; exact hz))
theorem nm_at {rs : List RowD} {i : Nat} (hi : i < rs.length) : (rs.map fun r => V.str r.nm).getD i .non = V.str rs[i].nm := by simp [List.getD, hi]
theorem names_comp {rs : List RowD} {n : Nat} (hn : n = rs.length) : ((List.range n).filter fun i => isE ((rs.map fun r => V.str r.nm).getD i .non)).map (fun i => (rs.map fun r => V.str r.nm).getD i .non) = namesV rs := by
  have em : (List.range n).map (fun i => (rs.map fun r => V.str r.nm).getD i .non) = rs.map fun r => V.str r.nm := by
    apply List.ext_getElem
    · simp [hn]
    · intro i h1 h2
      have : i < rs.length := by simpa using h2
      simp [this]
  have e2 : namesV rs = ((List.range n).map (fun i => (rs.map fun r => V.str r.nm).getD i .non)).filter isE := by unfold namesV; rw [em]
  rw [e2, List.filter_map]
  rfl
theorem tups_at {H H' : Hp} {ts : List V} {rs : List RowD} (h : ∀ (i : Nat) r, rs[i]? = some r → ∃ v t, ts[i]? = some v ∧ RowTup H v t r) (hn : ts.length = rs.length) {i : Nat} {x : V} (hx : ts[i]? = some x) (s : Same H H') :
    ∃ (pp t : Addr) (hi : i < rs.length), x = .ref pp ∧ H' pp = some (.tup [.str (sortW rs[i].so), .str rs[i].nm, .str rs[i].ad, .str rs[i].wd, .ref t]) ∧ TmsAt H' t rs[i].ts := by
  have hi : i < rs.length := by rw [← hn]; exact (List.getElem?_eq_some_iff.mp hx).1
  obtain ⟨v, t, e, rt⟩ := h i _ (List.getElem?_eq_getElem hi)
  rw [hx] at e
  cases e
  obtain ⟨pp, rfl, hpp, tm⟩ := rt
  exact ⟨pp, t, hi, rfl, s _ _ hpp, tm.same s⟩
theorem RowAt.off {C : Nat → Addr} {H : Hp} {a t d : Addr} {r : RowD} {hs : List V} (h : RowAt C H a t r) (g : GoodR r) (hd : H d = some (.lst hs)) (hh : ∀ v ∈ hs, ∃ b D dx fs, v = V.ref b ∧ H b = some (.ins D dx fs)) : ∃ t', RowAt C H a t' r ∧ t' ≠ d := by
  by_cases k : t = d
  · obtain ⟨dy, fs, e, f⟩ := h
    have no : ¬ (r.so = 0 ∨ r.so = 1 ∨ r.so = 5) := fun z => by
      obtain ⟨_, xs, hl, hn, hx⟩ := f.tm z
      rw [k, hd] at hl
      cases hl
      have h0 : 0 < hs.length := by rw [hn]; exact List.length_pos_iff.mpr g.ts.lo
      obtain ⟨b, D, dx, fs2, e3, e4⟩ := hh hs[0] (List.getElem_mem h0)
      obtain ⟨tt, _, pp, y, e5, e6, _⟩ := hx 0 _ (List.getElem?_eq_getElem h0)
      rw [e3] at e5
      cases e5
      rw [e4] at e6
      cases e6
    exact ⟨a, ⟨dy, fs, e, f.nm, fun z => absurd z no, f.ad, f.wd, f.nb, f.na, f.ns⟩, ne_of e hd (by intro z; cases z)⟩
  · exact ⟨t, h, k⟩
theorem PartAt.clear {C : Nat → Addr} {H : Hp} {p l d : Addr} {ad : Str} {rs : List RowD} {hs : List V} (h : PartAt C H p ad l rs) (g : GoodRs rs) (hd : H d = some (.lst hs)) (hld : l ≠ d) (hh : ∀ v ∈ hs, ∃ b D dx fs, v = V.ref b ∧ H b = some (.ins D dx fs)) : PartAt C (upd H d (.lst [])) p ad l rs := by
  obtain ⟨dx, fs, e, a1, a2, a3, a4, a5, xs, hl, hn, hx⟩ := h
  refine ⟨dx, fs, by rw [upd_ne (ne_of e hd (by intro z; cases z))]; exact e, a1, a2, a3, a4, a5, xs, by rw [upd_ne hld]; exact hl, hn, fun i r er => ?_⟩
  obtain ⟨a, t, e2, ra⟩ := hx i r er
  obtain ⟨t', ra', ht'⟩ := ra.off (g.at er) hd hh
  exact ⟨a, t', e2, ra'.upd hd ht'⟩
noncomputable def Drawn (zs : List Str) (rs : List RowD) : Prop := ∀ (j : Nat) r, rs[j]? = some r → GoodR r ∧ (r.so < 5 → zs[j]? = some r.nm)
theorem Drawn.apart {zs : List Str} {rs : List RowD} (nd : zs.Nodup) (h : Drawn zs rs) : Apart rs := fun i j r q ei ej e hne => by
  have hi := h i r ei
  have hj := h j q ej
  have z1 := hi.2 (Nat.lt_of_le_of_ne hi.1.so fun z => hne (hi.1.no z))
  have z2 := hj.2 (Nat.lt_of_le_of_ne hj.1.so fun z => hne (by rw [e]; exact hj.1.no z))
  have l1 := (List.getElem?_eq_some_iff.mp z1).1
  exact (List.getElem?_inj l1 nd).mp (by rw [z1, z2, e])
noncomputable def r0 : RowD := ⟨0, "b", dotted ["a"], "a", [⟨1, .num 1⟩]⟩
theorem nm_a : IsNm ("a" : Str) := isNm_of (by decide +kernel)
theorem ga0 : GoodA [("a" : Str)] := ⟨by simp, by decide, fun y hy => by rw [List.mem_singleton.mp hy]; exact nm_a⟩
theorem gr0 : GoodR r0 := ⟨by decide, fun _ => isNm_of (by decide +kernel), (fun z => by cases z), ⟨_, ga0, rfl⟩, nm_a, ⟨by show [(⟨1, .num 1⟩ : Trm)] ≠ []; simp, by decide, (fun t ht => by rw [List.mem_singleton.mp ht]; exact ⟨.inl rfl, (by show 1 < 10 ^ 20; decide)⟩), fun t ht => by cases ht; rfl⟩, fun z => by cases z⟩
theorem grs0 : GoodRs [r0] := ⟨by decide, fun r hr => by rw [List.mem_singleton.mp hr]; exact gr0⟩
theorem ap0 : Apart [r0] := fun i j r q ei ej _ _ => by
  have h1 := (List.getElem?_eq_some_iff.mp ei).1
  have h2 := (List.getElem?_eq_some_iff.mp ej).1
  rw [List.length_singleton] at h1 h2
  omega
theorem tx0 : partText (dotted ["a"]) [r0] = ("part a\nlet b be 1" : Str) := by decide +kernel
theorem pl0 : placeV [r0] "b" = .int 0 := by decide +kernel
theorem nv0 : namesV [r0] = [("b" : Str)].map V.str := by decide +kernel
noncomputable def oddW : List Str := ["let", "be", "as", "draw", "late", "take", "from", "need", "deed", "part"]
theorem odd_nm : ∀ z ∈ oddW, IsNm z := fun z hz => by
  simp only [oddW, List.mem_cons, List.not_mem_nil, or_false] at hz
  rcases hz with rfl | rfl | rfl | rfl | rfl | rfl | rfl | rfl | rfl | rfl
  all_goals exact isNm_of (by decide +kernel)
theorem odd_nd : oddW.Nodup := by decide +kernel
theorem ex_of {X : Cx} {b : List Stmt} {t : TS} {p : TS → Prop} (q : QSs X b t) (h : p t) : ∃ W, PSs X b W ∧ p W := ⟨t, q.h, h⟩

end
structure Tx (K : PySem.W.Frag) (mg : Str → Option Value) (C : Nat → Addr) : Prop where
  any : mg "any" = none
  enumerate : mg "enumerate" = none
  len : mg "len" = none
  range : mg "range" = none
  inst : mg "isinstance" = none
  t_str : mg "str" = none
  t_int : mg "int" = none
  t_bool : mg "bool" = none
  t_list : mg "list" = none
  t_tuple : mg "tuple" = none
  all : mg "all" = none
  max : mg "max" = none
  min : mg "min" = none
  zip : mg "zip" = none
  g_LETTERS : ∃ t, mg "LETTERS" = some (.str "abcdefghijklmnopqrstuvwxyz" t)
  g_MOST_LETTERS : ∃ t, mg "MOST_LETTERS" = some (.int 8 t)
  g_MOST_NAMES : ∃ t, mg "MOST_NAMES" = some (.int 3 t)
  g_FIGURES : ∃ t, mg "FIGURES" = some (.str "0123456789" t)
  g_MOST_FIGURES : ∃ t, mg "MOST_FIGURES" = some (.int 20 t)
  g_MOST_TERMS : ∃ t, mg "MOST_TERMS" = some (.int 6 t)
  g_MOST_STEPS : ∃ t, mg "MOST_STEPS" = some (.int 4 t)
  g_MOST_ROWS : ∃ t, mg "MOST_ROWS" = some (.int 12 t)
  a_show_term : ∃ f fd, FnAt K mg "show_term" s_show_term psPShowTerm f fd
  a_show_expr : ∃ f fd, FnAt K mg "show_expr" s_show_expr psPShowExpr f fd
  a_is_name : ∃ f fd, FnAt K mg "is_name" s_is_name psPIsName f fd
  a_are_names : ∃ f fd, FnAt K mg "are_names" s_are_names psPAreNames f fd
  a_is_address : ∃ f fd, FnAt K mg "is_address" s_is_address psPIsAddress f fd
  a_is_number : ∃ f fd, FnAt K mg "is_number" s_is_number psPIsNumber f fd
  a_read_path : ∃ f fd, FnAt K mg "read_path" s_read_path psPReadPath f fd
  a_read_term : ∃ f fd, FnAt K mg "read_term" s_read_term psPReadTerm f fd
  a_read_sign : ∃ f fd, FnAt K mg "read_sign" s_read_sign psPReadSign f fd
  a_read_expr : ∃ f fd, FnAt K mg "read_expr" s_read_expr psPReadExpr f fd
  a_has_call : ∃ f fd, FnAt K mg "has_call" s_has_call psPHasCall f fd
  a_names_expr : ∃ f fd, FnAt K mg "names_expr" s_names_expr psPNamesExpr f fd
  a_names_address : ∃ f fd, FnAt K mg "names_address" s_names_address psPNamesAddress f fd
  a_names_word : ∃ f fd, FnAt K mg "names_word" s_names_word psPNamesWord f fd
  a_terms_from : ∃ f fd, FnAt K mg "terms_from" s_terms_from psPTermsFrom f fd
  a_deed_of : ∃ f fd, FnAt K mg "deed_of" s_deed_of psPDeedOf f fd
  a_row_of : ∃ f fd, FnAt K mg "row_of" s_row_of psPRowOf f fd
  a_row_at : ∃ f fd, FnAt K mg "row_at" s_row_at psPRowAt f fd
  a_read_head : ∃ f fd, FnAt K mg "read_head" s_read_head psPReadHead f fd
  a_read_part : ∃ f fd, FnAt K mg "read_part" s_read_part psPReadPart f fd
  a_law_cell : ∃ f fd, FnAt K mg "_law_cell" s_law_cell psCell f fd
  a_law_sub : ∃ f fd, FnAt K mg "_law_sub" s_law_sub psSub f fd
  a_law_number : ∃ f fd, FnAt K mg "_law_number" s_law_number psNumber f fd
  a_law_pick : ∃ f fd, FnAt K mg "_law_pick" s_law_pick psPick f fd
  a_law_name : ∃ f fd, FnAt K mg "_law_name" s_law_name psName f fd
  a_law_names : ∃ f fd, FnAt K mg "_law_names" s_law_names psNames f fd
  a_law_label : ∃ f fd, FnAt K mg "_law_label" s_law_label psLabel f fd
  a_law_address : ∃ f fd, FnAt K mg "_law_address" s_law_address psAddress f fd
  a_law_term : ∃ f fd, FnAt K mg "_law_term" s_law_term psTerm f fd
  a_law_terms : ∃ f fd, FnAt K mg "_law_terms" s_law_terms psTerms f fd
  a_law_word : ∃ f fd, FnAt K mg "_law_word" s_law_word psWord f fd
  a_law_text : ∃ f fd, FnAt K mg "_law_text" s_law_text psText f fd
  a_law_row : ∃ f fd, FnAt K mg "_law_row" s_law_row psRow f fd
  a_law_said : ∃ f fd, FnAt K mg "_law_said" s_law_said psSaid f fd
  a_law_whole : ∃ f fd, FnAt K mg "_law_whole" s_law_whole psWhole f fd
  a_law_term_is : ∃ f fd, FnAt K mg "_law_term_is" s_law_term_is psTermIs f fd
  a_law_terms_are : ∃ f fd, FnAt K mg "_law_terms_are" s_law_terms_are psTermsAre f fd
  a_law_is : ∃ f fd, FnAt K mg "_law_is" s_law_is psIs f fd
  a_law_says : ∃ f fd, FnAt K mg "_law_says" s_law_says psSays f fd
  a_law_made : ∃ f fd, FnAt K mg "_law_made" s_law_made psMade f fd
  a_law_strange : ∃ f fd, FnAt K mg "_law_strange" s_law_strange psStrange f fd
  a_law_holds : ∃ f fd, FnAt K mg "_law_holds" s_law_holds psHolds f fd
  i_Part : ∃ f fd, MAt K "__init__" "Part.__init__" s_m_Part___init__ psPMPartInit f fd ∧ Mk K (C 7) f
  m_Part_bound : ∃ f fd, MAt K "bound" "Part.bound" s_m_Part_bound psPMPartBound f fd ∧ Meth K (C 7) "bound" f
  m_Part_place_of : ∃ f fd, MAt K "place_of" "Part.place_of" s_m_Part_place_of psPMPartPlaceOf f fd ∧ Meth K (C 7) "place_of" f
  m_Part_text : ∃ f fd, MAt K "text" "Part.text" s_m_Part_text psPMPartText f fd ∧ Meth K (C 7) "text" f
  m_Row_binds : ∃ f fd, MAt K "binds" "Row.binds" s_m_Row_binds psPMRowBinds f fd ∧ Meth K (C 5) "binds" f ∧ Meth K (C 6) "binds" f
  m_Row_asked : ∃ f fd, MAt K "asked" "Row.asked" s_m_Row_asked psPMRowAsked f fd ∧ Meth K (C 0) "asked" f ∧ Meth K (C 1) "asked" f ∧ Meth K (C 5) "asked" f ∧ Meth K (C 6) "asked" f
  m_Row_said : ∃ f fd, MAt K "said" "Row.said" s_m_Row_said psPMRowSaid f fd ∧ Meth K (C 6) "said" f
  i_Let : ∃ f fd, MAt K "__init__" "Let.__init__" s_m_Let___init__ psPMLetInit f fd ∧ Mk K (C 0) f
  m_Let_binds : ∃ f fd, MAt K "binds" "Let.binds" s_m_Let_binds psPMLetBinds f fd ∧ Meth K (C 0) "binds" f
  m_Let_said : ∃ f fd, MAt K "said" "Let.said" s_m_Let_said psPMLetSaid f fd ∧ Meth K (C 0) "said" f
  i_Deed : ∃ f fd, MAt K "__init__" "Deed.__init__" s_m_Deed___init__ psPMDeedInit f fd ∧ Mk K (C 1) f
  m_Deed_binds : ∃ f fd, MAt K "binds" "Deed.binds" s_m_Deed_binds psPMDeedBinds f fd ∧ Meth K (C 1) "binds" f
  m_Deed_said : ∃ f fd, MAt K "said" "Deed.said" s_m_Deed_said psPMDeedSaid f fd ∧ Meth K (C 1) "said" f
  i_Draw : ∃ f fd, MAt K "__init__" "Draw.__init__" s_m_Draw___init__ psPMDrawInit f fd ∧ Mk K (C 2) f
  m_Draw_binds : ∃ f fd, MAt K "binds" "Draw.binds" s_m_Draw_binds psPMDrawBinds f fd ∧ Meth K (C 2) "binds" f
  m_Draw_asked : ∃ f fd, MAt K "asked" "Draw.asked" s_m_Draw_asked psPMDrawAsked f fd ∧ Meth K (C 2) "asked" f
  m_Draw_said : ∃ f fd, MAt K "said" "Draw.said" s_m_Draw_said psPMDrawSaid f fd ∧ Meth K (C 2) "said" f
  i_Late : ∃ f fd, MAt K "__init__" "Late.__init__" s_m_Late___init__ psPMLateInit f fd ∧ Mk K (C 3) f
  m_Late_binds : ∃ f fd, MAt K "binds" "Late.binds" s_m_Late_binds psPMLateBinds f fd ∧ Meth K (C 3) "binds" f
  m_Late_asked : ∃ f fd, MAt K "asked" "Late.asked" s_m_Late_asked psPMLateAsked f fd ∧ Meth K (C 3) "asked" f
  m_Late_said : ∃ f fd, MAt K "said" "Late.said" s_m_Late_said psPMLateSaid f fd ∧ Meth K (C 3) "said" f
  i_Take : ∃ f fd, MAt K "__init__" "Take.__init__" s_m_Take___init__ psPMTakeInit f fd ∧ Mk K (C 4) f
  m_Take_binds : ∃ f fd, MAt K "binds" "Take.binds" s_m_Take_binds psPMTakeBinds f fd ∧ Meth K (C 4) "binds" f
  m_Take_asked : ∃ f fd, MAt K "asked" "Take.asked" s_m_Take_asked psPMTakeAsked f fd ∧ Meth K (C 4) "asked" f
  m_Take_said : ∃ f fd, MAt K "said" "Take.said" s_m_Take_said psPMTakeSaid f fd ∧ Meth K (C 4) "said" f
  i_Need : ∃ f fd, MAt K "__init__" "Need.__init__" s_m_Need___init__ psPMNeedInit f fd ∧ Mk K (C 5) f
  m_Need_said : ∃ f fd, MAt K "said" "Need.said" s_m_Need_said psPMNeedSaid f fd ∧ Meth K (C 5) "said" f
  c_Let : mg "Let" = some (.ref (C 0))
  c_Deed : mg "Deed" = some (.ref (C 1))
  c_Draw : mg "Draw" = some (.ref (C 2))
  c_Late : mg "Late" = some (.ref (C 3))
  c_Take : mg "Take" = some (.ref (C 4))
  c_Need : mg "Need" = some (.ref (C 5))
  c_Row : mg "Row" = some (.ref (C 6))
  c_Part : mg "Part" = some (.ref (C 7))
  cn : MkN K (C 6)
  fam : RFam K C
  pt : PFam K (C 7)
end Mine
namespace Mine
open PySem PySem.Spec PyProof.Rows L2
section
variable {P : Program} {w : World} {K : PySem.W.Frag} {mg : Str → Option Value} {base : Heap}
theorem ok_show_term {C : Nat → Addr} (T : Tx K mg C) {f : Addr} {fd : FuncData} (F : Fun K "show_term" "show_term" s_show_term f fd) : FnOk P w K mg base CX0 1 f fd psPShowTerm spShowT := by
  refine F.ok scPShowTerm (fun vs H Q E h => ?_) (fun cdv A outer s H vs Q E hr h => ?_)
  · obtain ⟨x, th, rfl, _⟩ := h
    rfl
  · obtain ⟨x, th, rfl, hx, gth, q⟩ := h
    refine ⟨_, QSs.h (qss_cons (qs_if (pt_cmpR op_eq (pv 0) pe_str (nomark _)) (qss_one (qs_ret (pe_callTy call_str_int (by rfl) T.t_str PyProof.Rows.boot_str (pa_cons (pv 1) pa_nil)))) qss_nil)
      (qss_cons (qs_set (i := 2) scPShowTerm.nd rfl (Or.inl rfl) (pe_bm PySem.F.plainAttrs_str PySem.F.slot_str_join PySem.F.type_str_join mt_join pe_str (pa_cons (pv 1) pa_nil)))
      (qss_cons (qs_if (pt_cmpR op_eq (pv 0) pe_str (nomark _)) (qss_one (qs_ret (pe_op op_add_str (pv 2) pe_str))) qss_nil)
      (qss_one (qs_ret (pv 2)))))), ?_⟩
    have q0 := q H (Same.refl H)
    cases th with
    | num m =>
      cases hx
      exact ⟨_, rfl, rfl, _, rfl, iteTb (decide_eq_true (show V.str (kindOf (.num m)) = V.str "number" from rfl)) ⟨_, rfl, _, rfl, log2_small gth, q0⟩⟩
    | nms c ys =>
      have gn : GoodN ys := gth
      obtain ⟨r, rfl, hr'⟩ := hx
      have hs : (ys.map (·.length)).sum ≤ ys.length * 8 := sum_le fun y hy => (gn.nm y hy).hi
      have h4 := gn.hi
      have hdl := gn.len
      cases c with
      | true =>
        refine ⟨_, rfl, rfl, _, rfl, iteFb (decide_eq_false (show ¬ V.str "call" = V.str "number" by decide +kernel)) ?_⟩
        refine ⟨rfl, _, rfl, _, r, ys, rfl, rfl, .inr (SqT.of hr'), by rw [dotlen]; omega, ?_⟩
        exact ⟨_, rfl, rfl, _, rfl, iteTb (decide_eq_true (show V.str "call" = V.str "call" from rfl)) ⟨_, rfl, _, _, rfl, rfl, Nat.le_trans (show (dotted ys).length + brk.length ≤ 1000 by rw [brk_len]; omega) big1000, q0⟩⟩
      | false =>
        refine ⟨_, rfl, rfl, _, rfl, iteFb (decide_eq_false (show ¬ V.str "path" = V.str "number" by decide +kernel)) ?_⟩
        refine ⟨rfl, _, rfl, _, r, ys, rfl, rfl, .inr (SqT.of hr'), by rw [dotlen]; omega, ?_⟩
        exact ⟨_, rfl, rfl, _, rfl, iteFb (decide_eq_false (show ¬ V.str "path" = V.str "call" by decide +kernel)) ⟨_, rfl, q0⟩⟩

theorem ok_show_expr {C : Nat → Addr} (T : Tx K mg C) {f : Addr} {fd : FuncData} (F : Fun K "show_expr" "show_expr" s_show_expr f fd) : FnOk P w K mg base CX0 2 f fd psPShowExpr spText := by
  obtain ⟨f_show_term, fd_show_term, A_show_term⟩ := T.a_show_term
  have G_show_term : FnOk P w K mg base CX0 1 f_show_term fd_show_term psPShowTerm spShowT := ok_show_term T A_show_term.F
  refine F.ok scPShowExpr (fun vs H Q E h => ?_) (fun cdv A outer s H vs Q E hr h => ?_)
  · obtain ⟨l, ts, rfl, _⟩ := h
    rfl
  · obtain ⟨l, ts, rfl, ⟨xs, hl, hxl, hx⟩, hg, q⟩ := h
    have hr1 : Room 1 _ := hr
    refine ⟨_, QSs.h (qss_cons (qs_set (i := 1) scPShowExpr.nd rfl (Or.inl rfl) (pe_lst pa_nil))
      (qss_cons (qs_for PassesOwn.never rfl (pi_list (pv 0)) (pg_tupK (K := K) (n := 3) rfl rfl (pgs_cons (pg_name (i := 2) scPShowExpr.nd rfl (Or.inl rfl)) (pgs_cons (pg_name (i := 3) scPShowExpr.nd rfl (Or.inl rfl)) (pgs_cons (pg_name (i := 4) scPShowExpr.nd rfl (Or.inl rfl)) pgs_nil))))
      (qss_cons (qs_if (pt_cmpR op_gt (pe_callB call_len_seq (by rfl) T.len PySem.boot_len (pa_cons (pv 1) pa_nil)) pe_int (nomark _)) (qss_one (qs_expr (pe_bm PySem.F.plainAttrs_list PySem.F.slot_list_append PySem.F.type_list_append mt_append (pv 1) (pa_cons (pe_ifExp (pt_cmpR op_eq (pv 2) pe_int (nomark _)) pe_str pe_str) pa_nil)))) qss_nil)
      (qss_one (qs_expr (pe_bm PySem.F.plainAttrs_list PySem.F.slot_list_append PySem.F.type_list_append mt_append (pv 1) (pa_cons (pcall A_show_term G_show_term hr1 (pa_cons (pv 3) (pa_cons (pv 4) pa_nil))) pa_nil))))))
      (qss_one (qs_ret (pe_bm PySem.F.plainAttrs_str PySem.F.slot_str_join PySem.F.type_str_join mt_join pe_str (pa_cons (pv 1) pa_nil)))))), ?_⟩
    have h6 := hg.hi
    refine ⟨by show 0 ≤ sizeLine; decide, fun d hd => ?_⟩
    refine ⟨_, rfl, l, rfl, ⟨_, SqL.of ((Same.new hd) _ _ hl)⟩, ?_⟩
    refine for_list (xs := xs) (fun i σ H' => ∃ v2 v3 v4, σ = [some (.ref l), some (.ref d), v2, v3, v4] ∧ Same H H' ∧ H' d = some (.lst ((wordsOf (ts.take i)).map V.str))) ⟨none, none, none, rfl, Same.new hd, upd_same⟩ ?_ ?_ ?_
    · rintro i σ H' _ ⟨v2, v3, v4, rfl, sm, _⟩
      exact SqL.of (sm _ _ hl)
    · rintro i x σ H3 hxi ⟨v2, v3, v4, rfl, sm, h3d⟩
      obtain ⟨t, et, tm⟩ := hx i x hxi
      have gt : GoodT t := hg.ok t (List.mem_of_getElem? et)
      obtain ⟨p, y, rfl, hp, hy⟩ := tm.same sm
      have hi : i < ts.length := (List.getElem?_eq_some_iff.mp et).1
      have hne : d ≠ p := ne_of h3d hp (by intro z; cases z)
      refine ⟨p, _, rfl, SqT.of hp, rfl, _, _, rfl, _, _, rfl, _, _, rfl, rfl, ?_⟩
      have e2 : ts.take (i + 1) = ts.take i ++ [t] := by rw [List.take_add_one, et]; rfl
      have wl : (wordsOf (ts.take i)).length ≤ 12 := by
        cases htk : ts.take i with
        | nil => simp [wordsOf]
        | cons u r =>
          rw [wordsOf_len (by simp), ← htk, List.length_take]
          omega
      -- the word
      have fin : ∀ (ws : List Str) (Hx : Hp), ws.length ≤ 13 → Same H Hx → Hx d = some (.lst (ws.map V.str)) → ws ++ [wordOf t.th] = wordsOf (ts.take (i + 1)) →
          tDrop (tBM K "list" rAppend (tVar 1) (tCons (tCall spShowT [] E0 (tCons (tVar 3) (tCons (tVar 4) tNil))) tNil))
            { nx := fun σ H' => ∃ v2 v3 v4, σ = [some (V.ref l), some (V.ref d), v2, v3, v4] ∧ Same H H' ∧ H' d = some (.lst ((wordsOf (ts.take (i + 1))).map V.str)), rt := Q, bk := tRet (tBM K "str" (rJoin K) (tC (.str " ")) (tCons (tVar 1) tNil)) { nx := fun _ H' => Q .non H', rt := Q }, ct := fun σ H' => ∃ v2 v3 v4, σ = [some (V.ref l), some (V.ref d), v2, v3, v4] ∧ Same H H' ∧ H' d = some (.lst ((wordsOf (ts.take (i + 1))).map V.str)) }
            [some (V.ref l), some (V.ref d), some (V.int t.sg), some (V.str (kindOf t.th)), some y] Hx := by
        intro ws Hx hw sx hxd hws
        refine ⟨_, rfl, .inl ⟨rfl, _, SqL.of hxd⟩, _, rfl, _, rfl, y, t.th, rfl, (hx i _ hxi).elim fun t' ⟨et', tm'⟩ => ?_, gt.th, fun H4 s4 => ?_⟩
        · rw [et] at et'; cases et'
          obtain ⟨p', y', e', hp', hy'⟩ := tm'.same sx
          cases e'
          obtain ⟨p0, y0, e0, hp0, hy0⟩ := tm
          cases e0
          have a1 := sm _ _ hp0
          rw [hp] at a1
          have a2 := sx _ _ hp0
          rw [hp'] at a2
          injection a1 with a1; injection a1 with a1
          injection a2 with a2; injection a2 with a2
          have ey : y = y0 := by injection a1 with _ a1; injection a1 with _ a1; injection a1
          subst ey
          exact hy0.same sx
        · refine ⟨d, _, _, rfl, rfl, s4 _ _ hxd, Nat.lt_of_lt_of_le (show (ws.map V.str).length < 1000 by rw [List.length_map]; omega) big1000, ?_⟩
          refine ⟨_, _, _, rfl, (sx.trans s4).over hd, ?_⟩
          rw [upd_same, ← hws, List.map_append]
          rfl
      refine ⟨_, rfl, d, _, rfl, .inl (SqL.of h3d), _, _, rfl, rfl, _, rfl, ite2d (fun h => ?_) (fun h => ?_)⟩
      · rw [List.length_map] at h
        have hne2 : ts.take i ≠ [] := fun z => by rw [z] at h; simp [wordsOf] at h
        refine ⟨_, rfl, .inl ⟨rfl, _, SqL.of h3d⟩, _, rfl, rfl, _, rfl, iteC ?_⟩
        refine ⟨d, _, V.str (sgw t.sg), rfl, by rw [sgw_if], h3d, Nat.lt_of_lt_of_le (show _ < 1000 by rw [List.length_map]; omega) big1000, ?_⟩
        refine fin (wordsOf (ts.take i) ++ [sgw t.sg]) _ (by rw [List.length_append]; simp; omega) (sm.over hd) (by rw [upd_same, List.map_append]; rfl) ?_
        rw [e2, wordsOf_snoc t hne2, List.append_assoc]
        rfl
      · rw [List.length_map] at h
        have hne2 : ts.take i = [] := by
          cases htk : ts.take i with
          | nil => rfl
          | cons u r => rw [htk] at h; simp [wordsOf] at h
        refine fin (wordsOf (ts.take i)) H3 (by omega) sm h3d ?_
        rw [e2, hne2]
        rfl
    · rintro σ H3 ⟨v2, v3, v4, rfl, sm, h3d⟩
      rw [hxl, List.take_length] at h3d
      have wn := wordsOf_len hg.lo
      have ws : ((wordsOf ts).map (·.length)).sum ≤ (wordsOf ts).length * 38 := sum_le fun y hy => by
        rcases wordsOf_mem hy with ⟨t, ht, rfl⟩ | ⟨t, ht, rfl⟩
        · exact word_len (hg.ok t ht).th
        · rw [sgw_len]; decide
      have q' := q H3 sm
      rw [← text_join] at q'
      exact ⟨rfl, _, rfl, _, d, wordsOf ts, rfl, rfl, .inl (SqL.of h3d), by rw [blanklen]; omega, q'⟩

theorem ok_m_Row_binds {C : Nat → Addr} (T : Tx K mg C) {f : Addr} {fd : FuncData} (F : Fun K "binds" "Row.binds" s_m_Row_binds f fd) : FnOk P w K mg base CX0 1 f fd psPMRowBinds spRet0 := by
  refine F.ok scPMRowBinds (fun vs H Q E h => ?_) (fun cdv A outer s H vs Q E hr h => ?_)
  · obtain ⟨v, rfl, _⟩ := h
    rfl
  · obtain ⟨v, rfl, q⟩ := h
    exact ⟨_, QSs.h (qss_one (qs_ret pe_str)), q H (Same.refl H)⟩

theorem ok_m_Row_asked {C : Nat → Addr} (T : Tx K mg C) {f : Addr} {fd : FuncData} (F : Fun K "asked" "Row.asked" s_m_Row_asked f fd) : FnOk P w K mg base CX0 1 f fd psPMRowAsked spAsk0 := by
  refine F.ok scPMRowAsked (fun vs H Q E h => ?_) (fun cdv A outer s H vs Q E hr h => ?_)
  · obtain ⟨v, rfl, _⟩ := h
    rfl
  · obtain ⟨v, rfl, q⟩ := h
    exact ⟨_, QSs.h (qss_one (qs_ret (pe_lst pa_nil))), by show 0 ≤ sizeLine; decide, fun b hb => q b _ hb (Same.new hb) upd_same⟩

theorem ok_m_Let___init__ {C : Nat → Addr} (T : Tx K mg C) {f : Addr} {fd : FuncData} (F : Fun K "__init__" "Let.__init__" s_m_Let___init__ f fd) : FnOk P w K mg base CX0 1 f fd psPMLetInit (spIniL C 0) := by
  refine F.ok scPMLetInit (fun vs H Q E h => ?_) (fun cdv A outer s H vs Q E hr h => ?_)
  · obtain ⟨x, dx, r, d, rfl, _⟩ := h
    rfl
  · obtain ⟨x, dx, r, d, rfl, hso, hx, hts, h10, q⟩ := h
    refine ⟨_, QSs.h (qss_cons (qs_fld (pv 0) (pv 1))
      (qss_one (qs_fld (pv 0) (pe_callTy call_list_of (by rfl) T.t_list PyProof.Rows.boot_list (pa_cons (pv 2) pa_nil))))), ?_⟩
    obtain ⟨xs, hl, hxl, hxt⟩ := id hts
    have hdx : d ≠ x := ne_of hl hx (by intro z; cases z)
    refine ⟨_, rfl, _, rfl, x, _, dx, _, rfl, hx, (T.fam.c 0 (by decide)).cl, T.fam.nn 0 (by decide), Nat.lt_of_lt_of_le (Nat.zero_lt_one) (by decide), _, rfl, d, _, rfl, .inl (SqL.of (by rw [upd_ne hdx]; exact hl)), fun l hlf => ⟨_, rfl, x, _, dx, _, rfl, (by rw [upd_ne (upd_none hlf).2.symm]; exact upd_same), (T.fam.c 0 (by decide)).cl, T.fam.nt 0 (by decide), Nat.lt_of_lt_of_le (lenP Nat.zero_lt_one) (by decide), ?_⟩⟩
    obtain ⟨hl0, hlx⟩ := upd_none hlf
    refine q l _ hl0 (sb3 hl0) ⟨dx, _, by rw [hso]; exact upd_same, ?_⟩
    refine ⟨fun _ => (lkN (by decide +kernel)).trans lkP, fun _ => ⟨lkP, xs, by rw [upd_ne hlx]; exact upd_same, hxl, fun j y e => ?_⟩, fun k => absurd k (by omega), fun k => absurd k (by omega), (lkN (by decide +kernel)).trans (lkN (by decide +kernel)), (lkN (by decide +kernel)).trans (lkN (by decide +kernel)), (lkN (by decide +kernel)).trans (lkN (by decide +kernel))⟩
    obtain ⟨t, et, tm⟩ := hxt j y e
    exact ⟨t, et, tm.but hx (sb3 hl0)⟩

theorem ok_m_Let_binds {C : Nat → Addr} (T : Tx K mg C) {f : Addr} {fd : FuncData} (F : Fun K "binds" "Let.binds" s_m_Let_binds f fd) : FnOk P w K mg base CX0 1 f fd psPMLetBinds (spB C 0) := by
  refine F.ok scPMLetBinds (fun vs H Q E h => ?_) (fun cdv A outer s H vs Q E hr h => ?_)
  · obtain ⟨a, l, r, rfl, _⟩ := h
    rfl
  · obtain ⟨a, l, r, rfl, hso, ra, q⟩ := h
    refine ⟨_, QSs.h (qss_one (qs_ret (pe_fld (pv 0) rfl))), ?_⟩
    obtain ⟨dx, fs, ha, hf⟩ := id ra
    rw [hso] at ha
    exact ⟨_, rfl, rdF ha (T.fam.c 0 (by decide)).cl (T.fam.nn 0 (by decide)) (hf.nm (by rw [hso]; decide)) (q H (Same.refl H))⟩

theorem ok_m_Let_said {C : Nat → Addr} (T : Tx K mg C) {f : Addr} {fd : FuncData} (F : Fun K "said" "Let.said" s_m_Let_said f fd) : FnOk P w K mg base CX0 3 f fd psPMLetSaid (spS C 0) := by
  obtain ⟨f_show_expr, fd_show_expr, A_show_expr⟩ := T.a_show_expr
  have G_show_expr : FnOk P w K mg base CX0 2 f_show_expr fd_show_expr psPShowExpr spText := ok_show_expr T A_show_expr.F
  refine F.ok scPMLetSaid (fun vs H Q E h => ?_) (fun cdv A outer s H vs Q E hr h => ?_)
  · obtain ⟨a, l, r, rfl, _⟩ := h
    rfl
  · obtain ⟨a, l, r, rfl, hso, ra, hg, q⟩ := h
    have hr2 : Room 2 _ := hr
    refine ⟨_, QSs.h (qss_one (qs_ret (pe_op op_add_str (pe_op op_add_str (pe_op op_add_str pe_str (pe_fld (pv 0) rfl)) pe_str) (pcall A_show_expr G_show_expr hr2 (pa_cons (pe_fld (pv 0) rfl) pa_nil))))), ?_⟩
    obtain ⟨dx, fs, ha, hf⟩ := id ra
    rw [hso] at ha
    have e1 := hg.nl
    have e2 := hg.al
    have e3 := hg.tl
    have e4 := hg.wd.hi
    rw [said0 hso] at q
    refine ⟨_, rfl, rdF ha (T.fam.c 0 (by decide)).cl (T.fam.nn 0 (by decide)) (hf.nm (by rw [hso]; decide)) ⟨_, _, rfl, rfl, abS (Nat.le_of_eq len_let) e1, _, _, rfl, rfl, abS (alS (Nat.le_of_eq len_let) e1) (Nat.le_of_eq len_be), _, rfl, rdF ha (T.fam.c 0 (by decide)).cl (T.fam.nt 0 (by decide)) ((hf.tm (.inl hso)).1) ⟨l, r.ts, rfl, (hf.tm (.inl hso)).2, hg.ts, fun H2 s2 => ⟨_, _, rfl, rfl, abS (alS (alS (Nat.le_of_eq len_let) e1) (Nat.le_of_eq len_be)) e3, q H2 s2⟩⟩⟩⟩

theorem ok_m_Deed___init__ {C : Nat → Addr} (T : Tx K mg C) {f : Addr} {fd : FuncData} (F : Fun K "__init__" "Deed.__init__" s_m_Deed___init__ f fd) : FnOk P w K mg base CX0 1 f fd psPMDeedInit (spIniL C 1) := by
  refine F.ok scPMDeedInit (fun vs H Q E h => ?_) (fun cdv A outer s H vs Q E hr h => ?_)
  · obtain ⟨x, dx, r, d, rfl, _⟩ := h
    rfl
  · obtain ⟨x, dx, r, d, rfl, hso, hx, hts, h10, q⟩ := h
    refine ⟨_, QSs.h (qss_cons (qs_fld (pv 0) (pv 1))
      (qss_one (qs_fld (pv 0) (pe_callTy call_list_of (by rfl) T.t_list PyProof.Rows.boot_list (pa_cons (pv 2) pa_nil))))), ?_⟩
    obtain ⟨xs, hl, hxl, hxt⟩ := id hts
    have hdx : d ≠ x := ne_of hl hx (by intro z; cases z)
    refine ⟨_, rfl, _, rfl, x, _, dx, _, rfl, hx, (T.fam.c 1 (by decide)).cl, T.fam.nn 1 (by decide), Nat.lt_of_lt_of_le (Nat.zero_lt_one) (by decide), _, rfl, d, _, rfl, .inl (SqL.of (by rw [upd_ne hdx]; exact hl)), fun l hlf => ⟨_, rfl, x, _, dx, _, rfl, (by rw [upd_ne (upd_none hlf).2.symm]; exact upd_same), (T.fam.c 1 (by decide)).cl, T.fam.nt 1 (by decide), Nat.lt_of_lt_of_le (lenP Nat.zero_lt_one) (by decide), ?_⟩⟩
    obtain ⟨hl0, hlx⟩ := upd_none hlf
    refine q l _ hl0 (sb3 hl0) ⟨dx, _, by rw [hso]; exact upd_same, ?_⟩
    refine ⟨fun _ => (lkN (by decide +kernel)).trans lkP, fun _ => ⟨lkP, xs, by rw [upd_ne hlx]; exact upd_same, hxl, fun j y e => ?_⟩, fun k => absurd k (by omega), fun k => absurd k (by omega), (lkN (by decide +kernel)).trans (lkN (by decide +kernel)), (lkN (by decide +kernel)).trans (lkN (by decide +kernel)), (lkN (by decide +kernel)).trans (lkN (by decide +kernel))⟩
    obtain ⟨t, et, tm⟩ := hxt j y e
    exact ⟨t, et, tm.but hx (sb3 hl0)⟩

theorem ok_m_Deed_binds {C : Nat → Addr} (T : Tx K mg C) {f : Addr} {fd : FuncData} (F : Fun K "binds" "Deed.binds" s_m_Deed_binds f fd) : FnOk P w K mg base CX0 1 f fd psPMDeedBinds (spB C 1) := by
  refine F.ok scPMDeedBinds (fun vs H Q E h => ?_) (fun cdv A outer s H vs Q E hr h => ?_)
  · obtain ⟨a, l, r, rfl, _⟩ := h
    rfl
  · obtain ⟨a, l, r, rfl, hso, ra, q⟩ := h
    refine ⟨_, QSs.h (qss_one (qs_ret (pe_fld (pv 0) rfl))), ?_⟩
    obtain ⟨dx, fs, ha, hf⟩ := id ra
    rw [hso] at ha
    exact ⟨_, rfl, rdF ha (T.fam.c 1 (by decide)).cl (T.fam.nn 1 (by decide)) (hf.nm (by rw [hso]; decide)) (q H (Same.refl H))⟩

theorem ok_m_Deed_said {C : Nat → Addr} (T : Tx K mg C) {f : Addr} {fd : FuncData} (F : Fun K "said" "Deed.said" s_m_Deed_said f fd) : FnOk P w K mg base CX0 3 f fd psPMDeedSaid (spS C 1) := by
  obtain ⟨f_show_expr, fd_show_expr, A_show_expr⟩ := T.a_show_expr
  have G_show_expr : FnOk P w K mg base CX0 2 f_show_expr fd_show_expr psPShowExpr spText := ok_show_expr T A_show_expr.F
  refine F.ok scPMDeedSaid (fun vs H Q E h => ?_) (fun cdv A outer s H vs Q E hr h => ?_)
  · obtain ⟨a, l, r, rfl, _⟩ := h
    rfl
  · obtain ⟨a, l, r, rfl, hso, ra, hg, q⟩ := h
    have hr2 : Room 2 _ := hr
    refine ⟨_, QSs.h (qss_one (qs_ret (pe_op op_add_str (pe_op op_add_str (pe_op op_add_str pe_str (pe_fld (pv 0) rfl)) pe_str) (pcall A_show_expr G_show_expr hr2 (pa_cons (pe_fld (pv 0) rfl) pa_nil))))), ?_⟩
    obtain ⟨dx, fs, ha, hf⟩ := id ra
    rw [hso] at ha
    have e1 := hg.nl
    have e2 := hg.al
    have e3 := hg.tl
    have e4 := hg.wd.hi
    rw [said1 hso] at q
    refine ⟨_, rfl, rdF ha (T.fam.c 1 (by decide)).cl (T.fam.nn 1 (by decide)) (hf.nm (by rw [hso]; decide)) ⟨_, _, rfl, rfl, abS (Nat.le_of_eq len_deed) e1, _, _, rfl, rfl, abS (alS (Nat.le_of_eq len_deed) e1) (Nat.le_of_eq len_be), _, rfl, rdF ha (T.fam.c 1 (by decide)).cl (T.fam.nt 1 (by decide)) ((hf.tm (.inr (.inl hso))).1) ⟨l, r.ts, rfl, (hf.tm (.inr (.inl hso))).2, hg.ts, fun H2 s2 => ⟨_, _, rfl, rfl, abS (alS (alS (Nat.le_of_eq len_deed) e1) (Nat.le_of_eq len_be)) e3, q H2 s2⟩⟩⟩⟩

theorem ok_m_Draw___init__ {C : Nat → Addr} (T : Tx K mg C) {f : Addr} {fd : FuncData} (F : Fun K "__init__" "Draw.__init__" s_m_Draw___init__ f fd) : FnOk P w K mg base CX0 1 f fd psPMDrawInit (spIniA C 2) := by
  refine F.ok scPMDrawInit (fun vs H Q E h => ?_) (fun cdv A outer s H vs Q E hr h => ?_)
  · obtain ⟨x, dx, r, rfl, _⟩ := h
    rfl
  · obtain ⟨x, dx, r, rfl, hso, hx, q⟩ := h
    refine ⟨_, QSs.h (qss_cons (qs_fld (pv 0) (pv 1))
      (qss_one (qs_fld (pv 0) (pv 2)))), ?_⟩
    refine ⟨_, rfl, _, rfl, x, _, dx, _, rfl, hx, (T.fam.c 2 (by decide)).cl, T.fam.na 2 (by decide), Nat.lt_of_lt_of_le (Nat.zero_lt_one) (by decide), _, rfl, _, rfl, x, _, dx, _, rfl, upd_same, (T.fam.c 2 (by decide)).cl, T.fam.nn 2 (by decide), Nat.lt_of_lt_of_le (lenP Nat.zero_lt_one) (by decide), ?_⟩
    refine q _ (fun b o e hb => by rw [upd_ne hb, upd_ne hb]; exact e) fun l => ⟨dx, _, by rw [hso]; exact upd_same, ?_⟩
    exact ⟨fun _ => lkP, fun k => absurd k (by omega), fun _ => (lkN (by decide +kernel)).trans lkP, fun k => absurd k (by omega), (lkN (by decide +kernel)).trans (lkN (by decide +kernel)), (lkN (by decide +kernel)).trans (lkN (by decide +kernel)), (lkN (by decide +kernel)).trans (lkN (by decide +kernel))⟩

theorem ok_m_Draw_binds {C : Nat → Addr} (T : Tx K mg C) {f : Addr} {fd : FuncData} (F : Fun K "binds" "Draw.binds" s_m_Draw_binds f fd) : FnOk P w K mg base CX0 1 f fd psPMDrawBinds (spB C 2) := by
  refine F.ok scPMDrawBinds (fun vs H Q E h => ?_) (fun cdv A outer s H vs Q E hr h => ?_)
  · obtain ⟨a, l, r, rfl, _⟩ := h
    rfl
  · obtain ⟨a, l, r, rfl, hso, ra, q⟩ := h
    refine ⟨_, QSs.h (qss_one (qs_ret (pe_fld (pv 0) rfl))), ?_⟩
    obtain ⟨dx, fs, ha, hf⟩ := id ra
    rw [hso] at ha
    exact ⟨_, rfl, rdF ha (T.fam.c 2 (by decide)).cl (T.fam.nn 2 (by decide)) (hf.nm (by rw [hso]; decide)) (q H (Same.refl H))⟩

theorem ok_m_Draw_asked {C : Nat → Addr} (T : Tx K mg C) {f : Addr} {fd : FuncData} (F : Fun K "asked" "Draw.asked" s_m_Draw_asked f fd) : FnOk P w K mg base CX0 1 f fd psPMDrawAsked (spA C 2) := by
  refine F.ok scPMDrawAsked (fun vs H Q E h => ?_) (fun cdv A outer s H vs Q E hr h => ?_)
  · obtain ⟨a, l, r, rfl, _⟩ := h
    rfl
  · obtain ⟨a, l, r, rfl, hso, ra, q⟩ := h
    refine ⟨_, QSs.h (qss_one (qs_ret (pe_lst (pa_cons (pe_fld (pv 0) rfl) pa_nil)))), ?_⟩
    obtain ⟨dx, fs, ha, hf⟩ := id ra
    rw [hso] at ha
    exact ⟨_, rfl, rdF ha (T.fam.c 2 (by decide)).cl (T.fam.na 2 (by decide)) (hf.ad (.inl hso)) ⟨by show 1 ≤ sizeLine; decide, fun b hb => q b _ hb (Same.new hb) upd_same⟩⟩

theorem ok_m_Draw_said {C : Nat → Addr} (T : Tx K mg C) {f : Addr} {fd : FuncData} (F : Fun K "said" "Draw.said" s_m_Draw_said f fd) : FnOk P w K mg base CX0 1 f fd psPMDrawSaid (spS C 2) := by
  refine F.ok scPMDrawSaid (fun vs H Q E h => ?_) (fun cdv A outer s H vs Q E hr h => ?_)
  · obtain ⟨a, l, r, rfl, _⟩ := h
    rfl
  · obtain ⟨a, l, r, rfl, hso, ra, hg, q⟩ := h
    refine ⟨_, QSs.h (qss_one (qs_ret (pe_op op_add_str (pe_op op_add_str (pe_op op_add_str pe_str (pe_fld (pv 0) rfl)) pe_str) (pe_fld (pv 0) rfl)))), ?_⟩
    obtain ⟨dx, fs, ha, hf⟩ := id ra
    rw [hso] at ha
    have e1 := hg.nl
    have e2 := hg.al
    have e3 := hg.tl
    have e4 := hg.wd.hi
    rw [said2 hso] at q
    exact ⟨_, rfl, rdF ha (T.fam.c 2 (by decide)).cl (T.fam.na 2 (by decide)) (hf.ad (.inl hso)) ⟨_, _, rfl, rfl, abS (Nat.le_of_eq len_draw) e2, _, _, rfl, rfl, abS (alS (Nat.le_of_eq len_draw) e2) (Nat.le_of_eq len_as), _, rfl, rdF ha (T.fam.c 2 (by decide)).cl (T.fam.nn 2 (by decide)) (hf.nm (by rw [hso]; decide)) ⟨_, _, rfl, rfl, abS (alS (alS (Nat.le_of_eq len_draw) e2) (Nat.le_of_eq len_as)) e1, q H (Same.refl H)⟩⟩⟩

theorem ok_m_Late___init__ {C : Nat → Addr} (T : Tx K mg C) {f : Addr} {fd : FuncData} (F : Fun K "__init__" "Late.__init__" s_m_Late___init__ f fd) : FnOk P w K mg base CX0 1 f fd psPMLateInit (spIniA C 3) := by
  refine F.ok scPMLateInit (fun vs H Q E h => ?_) (fun cdv A outer s H vs Q E hr h => ?_)
  · obtain ⟨x, dx, r, rfl, _⟩ := h
    rfl
  · obtain ⟨x, dx, r, rfl, hso, hx, q⟩ := h
    refine ⟨_, QSs.h (qss_cons (qs_fld (pv 0) (pv 1))
      (qss_one (qs_fld (pv 0) (pv 2)))), ?_⟩
    refine ⟨_, rfl, _, rfl, x, _, dx, _, rfl, hx, (T.fam.c 3 (by decide)).cl, T.fam.na 3 (by decide), Nat.lt_of_lt_of_le (Nat.zero_lt_one) (by decide), _, rfl, _, rfl, x, _, dx, _, rfl, upd_same, (T.fam.c 3 (by decide)).cl, T.fam.nn 3 (by decide), Nat.lt_of_lt_of_le (lenP Nat.zero_lt_one) (by decide), ?_⟩
    refine q _ (fun b o e hb => by rw [upd_ne hb, upd_ne hb]; exact e) fun l => ⟨dx, _, by rw [hso]; exact upd_same, ?_⟩
    exact ⟨fun _ => lkP, fun k => absurd k (by omega), fun _ => (lkN (by decide +kernel)).trans lkP, fun k => absurd k (by omega), (lkN (by decide +kernel)).trans (lkN (by decide +kernel)), (lkN (by decide +kernel)).trans (lkN (by decide +kernel)), (lkN (by decide +kernel)).trans (lkN (by decide +kernel))⟩

theorem ok_m_Late_binds {C : Nat → Addr} (T : Tx K mg C) {f : Addr} {fd : FuncData} (F : Fun K "binds" "Late.binds" s_m_Late_binds f fd) : FnOk P w K mg base CX0 1 f fd psPMLateBinds (spB C 3) := by
  refine F.ok scPMLateBinds (fun vs H Q E h => ?_) (fun cdv A outer s H vs Q E hr h => ?_)
  · obtain ⟨a, l, r, rfl, _⟩ := h
    rfl
  · obtain ⟨a, l, r, rfl, hso, ra, q⟩ := h
    refine ⟨_, QSs.h (qss_one (qs_ret (pe_fld (pv 0) rfl))), ?_⟩
    obtain ⟨dx, fs, ha, hf⟩ := id ra
    rw [hso] at ha
    exact ⟨_, rfl, rdF ha (T.fam.c 3 (by decide)).cl (T.fam.nn 3 (by decide)) (hf.nm (by rw [hso]; decide)) (q H (Same.refl H))⟩

theorem ok_m_Late_asked {C : Nat → Addr} (T : Tx K mg C) {f : Addr} {fd : FuncData} (F : Fun K "asked" "Late.asked" s_m_Late_asked f fd) : FnOk P w K mg base CX0 1 f fd psPMLateAsked (spA C 3) := by
  refine F.ok scPMLateAsked (fun vs H Q E h => ?_) (fun cdv A outer s H vs Q E hr h => ?_)
  · obtain ⟨a, l, r, rfl, _⟩ := h
    rfl
  · obtain ⟨a, l, r, rfl, hso, ra, q⟩ := h
    refine ⟨_, QSs.h (qss_one (qs_ret (pe_lst (pa_cons (pe_fld (pv 0) rfl) pa_nil)))), ?_⟩
    obtain ⟨dx, fs, ha, hf⟩ := id ra
    rw [hso] at ha
    exact ⟨_, rfl, rdF ha (T.fam.c 3 (by decide)).cl (T.fam.na 3 (by decide)) (hf.ad (.inr (.inl hso))) ⟨by show 1 ≤ sizeLine; decide, fun b hb => q b _ hb (Same.new hb) upd_same⟩⟩

theorem ok_m_Late_said {C : Nat → Addr} (T : Tx K mg C) {f : Addr} {fd : FuncData} (F : Fun K "said" "Late.said" s_m_Late_said f fd) : FnOk P w K mg base CX0 1 f fd psPMLateSaid (spS C 3) := by
  refine F.ok scPMLateSaid (fun vs H Q E h => ?_) (fun cdv A outer s H vs Q E hr h => ?_)
  · obtain ⟨a, l, r, rfl, _⟩ := h
    rfl
  · obtain ⟨a, l, r, rfl, hso, ra, hg, q⟩ := h
    refine ⟨_, QSs.h (qss_one (qs_ret (pe_op op_add_str (pe_op op_add_str (pe_op op_add_str pe_str (pe_fld (pv 0) rfl)) pe_str) (pe_fld (pv 0) rfl)))), ?_⟩
    obtain ⟨dx, fs, ha, hf⟩ := id ra
    rw [hso] at ha
    have e1 := hg.nl
    have e2 := hg.al
    have e3 := hg.tl
    have e4 := hg.wd.hi
    rw [said3 hso] at q
    exact ⟨_, rfl, rdF ha (T.fam.c 3 (by decide)).cl (T.fam.na 3 (by decide)) (hf.ad (.inr (.inl hso))) ⟨_, _, rfl, rfl, abS (Nat.le_of_eq len_late) e2, _, _, rfl, rfl, abS (alS (Nat.le_of_eq len_late) e2) (Nat.le_of_eq len_as), _, rfl, rdF ha (T.fam.c 3 (by decide)).cl (T.fam.nn 3 (by decide)) (hf.nm (by rw [hso]; decide)) ⟨_, _, rfl, rfl, abS (alS (alS (Nat.le_of_eq len_late) e2) (Nat.le_of_eq len_as)) e1, q H (Same.refl H)⟩⟩⟩

theorem ok_m_Take___init__ {C : Nat → Addr} (T : Tx K mg C) {f : Addr} {fd : FuncData} (F : Fun K "__init__" "Take.__init__" s_m_Take___init__ f fd) : FnOk P w K mg base CX0 1 f fd psPMTakeInit (spIniT C) := by
  refine F.ok scPMTakeInit (fun vs H Q E h => ?_) (fun cdv A outer s H vs Q E hr h => ?_)
  · obtain ⟨x, dx, r, rfl, _⟩ := h
    rfl
  · obtain ⟨x, dx, r, rfl, hso, hx, q⟩ := h
    refine ⟨_, QSs.h (qss_cons (qs_fld (pv 0) (pv 1))
      (qss_cons (qs_fld (pv 0) (pv 2))
      (qss_one (qs_fld (pv 0) (pv 3))))), ?_⟩
    refine ⟨_, rfl, _, rfl, x, _, dx, _, rfl, hx, (T.fam.c 4 (by decide)).cl, T.fam.nw 4 (by decide), Nat.lt_of_lt_of_le (Nat.zero_lt_one) (by decide), _, rfl, _, rfl, x, _, dx, _, rfl, upd_same, (T.fam.c 4 (by decide)).cl, T.fam.na 4 (by decide), Nat.lt_of_lt_of_le (lenP Nat.zero_lt_one) (by decide), _, rfl, _, rfl, x, _, dx, _, rfl, upd_same, (T.fam.c 4 (by decide)).cl, T.fam.nn 4 (by decide), Nat.lt_of_lt_of_le (lenP (lenP Nat.zero_lt_one)) (by decide), ?_⟩
    refine q _ (fun b o e hb => by rw [upd_ne hb, upd_ne hb, upd_ne hb]; exact e) fun l => ⟨dx, _, by rw [hso]; exact upd_same, ?_⟩
    exact ⟨fun _ => lkP, fun k => absurd k (by omega), fun _ => (lkN (by decide +kernel)).trans lkP, fun _ => (lkN (by decide +kernel)).trans ((lkN (by decide +kernel)).trans lkP), (lkN (by decide +kernel)).trans ((lkN (by decide +kernel)).trans (lkN (by decide +kernel))), (lkN (by decide +kernel)).trans ((lkN (by decide +kernel)).trans (lkN (by decide +kernel))), (lkN (by decide +kernel)).trans ((lkN (by decide +kernel)).trans (lkN (by decide +kernel)))⟩

theorem ok_m_Take_binds {C : Nat → Addr} (T : Tx K mg C) {f : Addr} {fd : FuncData} (F : Fun K "binds" "Take.binds" s_m_Take_binds f fd) : FnOk P w K mg base CX0 1 f fd psPMTakeBinds (spB C 4) := by
  refine F.ok scPMTakeBinds (fun vs H Q E h => ?_) (fun cdv A outer s H vs Q E hr h => ?_)
  · obtain ⟨a, l, r, rfl, _⟩ := h
    rfl
  · obtain ⟨a, l, r, rfl, hso, ra, q⟩ := h
    refine ⟨_, QSs.h (qss_one (qs_ret (pe_fld (pv 0) rfl))), ?_⟩
    obtain ⟨dx, fs, ha, hf⟩ := id ra
    rw [hso] at ha
    exact ⟨_, rfl, rdF ha (T.fam.c 4 (by decide)).cl (T.fam.nn 4 (by decide)) (hf.nm (by rw [hso]; decide)) (q H (Same.refl H))⟩

theorem ok_m_Take_asked {C : Nat → Addr} (T : Tx K mg C) {f : Addr} {fd : FuncData} (F : Fun K "asked" "Take.asked" s_m_Take_asked f fd) : FnOk P w K mg base CX0 1 f fd psPMTakeAsked (spA C 4) := by
  refine F.ok scPMTakeAsked (fun vs H Q E h => ?_) (fun cdv A outer s H vs Q E hr h => ?_)
  · obtain ⟨a, l, r, rfl, _⟩ := h
    rfl
  · obtain ⟨a, l, r, rfl, hso, ra, q⟩ := h
    refine ⟨_, QSs.h (qss_one (qs_ret (pe_lst (pa_cons (pe_fld (pv 0) rfl) pa_nil)))), ?_⟩
    obtain ⟨dx, fs, ha, hf⟩ := id ra
    rw [hso] at ha
    exact ⟨_, rfl, rdF ha (T.fam.c 4 (by decide)).cl (T.fam.na 4 (by decide)) (hf.ad (.inr (.inr hso))) ⟨by show 1 ≤ sizeLine; decide, fun b hb => q b _ hb (Same.new hb) upd_same⟩⟩

theorem ok_m_Take_said {C : Nat → Addr} (T : Tx K mg C) {f : Addr} {fd : FuncData} (F : Fun K "said" "Take.said" s_m_Take_said f fd) : FnOk P w K mg base CX0 1 f fd psPMTakeSaid (spS C 4) := by
  refine F.ok scPMTakeSaid (fun vs H Q E h => ?_) (fun cdv A outer s H vs Q E hr h => ?_)
  · obtain ⟨a, l, r, rfl, _⟩ := h
    rfl
  · obtain ⟨a, l, r, rfl, hso, ra, hg, q⟩ := h
    refine ⟨_, QSs.h (qss_one (qs_ret (pe_op op_add_str (pe_op op_add_str (pe_op op_add_str (pe_op op_add_str (pe_op op_add_str pe_str (pe_fld (pv 0) rfl)) pe_str) (pe_fld (pv 0) rfl)) pe_str) (pe_fld (pv 0) rfl)))), ?_⟩
    obtain ⟨dx, fs, ha, hf⟩ := id ra
    rw [hso] at ha
    have e1 := hg.nl
    have e2 := hg.al
    have e3 := hg.tl
    have e4 := hg.wd.hi
    rw [said4 hso] at q
    exact ⟨_, rfl, rdF ha (T.fam.c 4 (by decide)).cl (T.fam.nw 4 (by decide)) (hf.wd hso) ⟨_, _, rfl, rfl, abS (Nat.le_of_eq len_take) e4, _, _, rfl, rfl, abS (alS (Nat.le_of_eq len_take) e4) (Nat.le_of_eq len_from), _, rfl, rdF ha (T.fam.c 4 (by decide)).cl (T.fam.na 4 (by decide)) (hf.ad (.inr (.inr hso))) ⟨_, _, rfl, rfl, abS (alS (alS (Nat.le_of_eq len_take) e4) (Nat.le_of_eq len_from)) e2, _, _, rfl, rfl, abS (alS (alS (alS (Nat.le_of_eq len_take) e4) (Nat.le_of_eq len_from)) e2) (Nat.le_of_eq len_as), _, rfl, rdF ha (T.fam.c 4 (by decide)).cl (T.fam.nn 4 (by decide)) (hf.nm (by rw [hso]; decide)) ⟨_, _, rfl, rfl, abS (alS (alS (alS (alS (Nat.le_of_eq len_take) e4) (Nat.le_of_eq len_from)) e2) (Nat.le_of_eq len_as)) e1, q H (Same.refl H)⟩⟩⟩⟩

theorem ok_m_Need___init__ {C : Nat → Addr} (T : Tx K mg C) {f : Addr} {fd : FuncData} (F : Fun K "__init__" "Need.__init__" s_m_Need___init__ f fd) : FnOk P w K mg base CX0 1 f fd psPMNeedInit (spIniN C) := by
  refine F.ok scPMNeedInit (fun vs H Q E h => ?_) (fun cdv A outer s H vs Q E hr h => ?_)
  · obtain ⟨x, dx, r, d, rfl, _⟩ := h
    rfl
  · obtain ⟨x, dx, r, d, rfl, hso, hx, hts, h10, q⟩ := h
    refine ⟨_, QSs.h (qss_one (qs_fld (pv 0) (pe_callTy call_list_of (by rfl) T.t_list PyProof.Rows.boot_list (pa_cons (pv 1) pa_nil)))), ?_⟩
    obtain ⟨xs, hl, hxl, hxt⟩ := id hts
    refine ⟨_, rfl, d, _, rfl, .inl (SqL.of hl), fun l hl0 => ⟨_, rfl, x, _, dx, _, rfl, (by rw [upd_ne (ne_of_none hx hl0)]; exact hx), (T.fam.c 5 (by decide)).cl, T.fam.nt 5 (by decide), Nat.lt_of_lt_of_le (Nat.zero_lt_one) (by decide), ?_⟩⟩
    have hlx : l ≠ x := (ne_of_none hx hl0).symm
    refine q l _ hl0 (sb2 hl0) ⟨dx, _, by rw [hso]; exact upd_same, ?_⟩
    refine ⟨fun k => absurd k (by omega), fun _ => ⟨lkP, xs, by rw [upd_ne hlx]; exact upd_same, hxl, fun j y e => ?_⟩, fun k => absurd k (by omega), fun k => absurd k (by omega), lkN (by decide +kernel), lkN (by decide +kernel), lkN (by decide +kernel)⟩
    obtain ⟨t, et, tm⟩ := hxt j y e
    exact ⟨t, et, tm.but hx (sb2 hl0)⟩

theorem ok_m_Need_said {C : Nat → Addr} (T : Tx K mg C) {f : Addr} {fd : FuncData} (F : Fun K "said" "Need.said" s_m_Need_said f fd) : FnOk P w K mg base CX0 3 f fd psPMNeedSaid (spS C 5) := by
  obtain ⟨f_show_expr, fd_show_expr, A_show_expr⟩ := T.a_show_expr
  have G_show_expr : FnOk P w K mg base CX0 2 f_show_expr fd_show_expr psPShowExpr spText := ok_show_expr T A_show_expr.F
  refine F.ok scPMNeedSaid (fun vs H Q E h => ?_) (fun cdv A outer s H vs Q E hr h => ?_)
  · obtain ⟨a, l, r, rfl, _⟩ := h
    rfl
  · obtain ⟨a, l, r, rfl, hso, ra, hg, q⟩ := h
    have hr2 : Room 2 _ := hr
    refine ⟨_, QSs.h (qss_one (qs_ret (pe_op op_add_str pe_str (pcall A_show_expr G_show_expr hr2 (pa_cons (pe_fld (pv 0) rfl) pa_nil))))), ?_⟩
    obtain ⟨dx, fs, ha, hf⟩ := id ra
    rw [hso] at ha
    have e1 := hg.nl
    have e2 := hg.al
    have e3 := hg.tl
    have e4 := hg.wd.hi
    rw [said5 hso] at q
    refine ⟨_, rfl, rdF ha (T.fam.c 5 (by decide)).cl (T.fam.nt 5 (by decide)) ((hf.tm (.inr (.inr hso))).1) ⟨l, r.ts, rfl, (hf.tm (.inr (.inr hso))).2, hg.ts, fun H2 s2 => ⟨_, _, rfl, rfl, abS (Nat.le_of_eq len_need) e3, q H2 s2⟩⟩⟩

theorem ok_is_name {C : Nat → Addr} (T : Tx K mg C) {f : Addr} {fd : FuncData} (F : Fun K "is_name" "is_name" s_is_name f fd) : FnOk P w K mg base CX0 1 f fd psPIsName (spIsN K) := by
  refine F.ok scPIsName (fun vs H Q E h => ?_) (fun cdv A outer s H vs Q E hr h => ?_)
  · obtain ⟨z, rfl, _⟩ := h
    rfl
  · obtain ⟨z, rfl, hz, q⟩ := h
    refine ⟨_, QSs.h (qss_cons (qs_if (pt_not (pt_val (pe_callB call_inst (by rfl) T.inst PyProof.Rows.boot_isinstance (pa_cons (pv 0) (pa_cons (pe_bltn (v := .ty "str") (by rfl) T.t_str PyProof.Rows.boot_str rfl) pa_nil))))) (qss_one (qs_ret pe_bl)) qss_nil)
      (qss_cons (qs_if (PW.pt (pw_or (pt_cmpR op_lt (pe_callB call_len_str (by rfl) T.len PySem.boot_len (pa_cons (pv 0) pa_nil)) pe_int (nomark _)) (pw_or1 (pt_cmpR op_gt (pe_callB call_len_str (by rfl) T.len PySem.boot_len (pa_cons (pv 0) pa_nil)) (pgl_int T.g_MOST_LETTERS) (nomark _))))) (qss_one (qs_ret pe_bl)) qss_nil)
      (qss_one (qs_ret (pe_callB (call_all rfl) (by rfl) T.all PyProof.Rows.boot_all (pa_cons (pe_comp (N := ["sign"]) [none] rfl (by kernel_rfl) (pi_str (pv 0)) (fun cl C fp s H => (pg_name (i := 0) (by decide +kernel : (["sign"] : List Str).Nodup) rfl (Or.inl rfl))) (fun cl C fp s H => pf_nil) (fun cl C fp s H => (pe_cmpR op_in_str (pv 0) (pgl_str T.g_LETTERS) (by rfl)))) pa_nil)))))), ?_⟩
    have hz' : z.length ≤ sizeLine := Nat.le_trans hz line_big
    refine ⟨_, rfl, _, _, _, _, rfl, .str _, kit_same, _, rfl, iteF ?_⟩
    refine ⟨_, rfl, _, rfl, hz', _, _, rfl, rfl, _, rfl, ite2d (fun h1 => iteT ?_) (fun h1 => ?_)⟩
    · have e : nmB z = false := by
        unfold nmB
        rw [decide_eq_false (by omega)]; rfl
      have q' := q H (Same.refl H)
      rw [e] at q'
      exact q'
    refine ⟨_, rfl, _, rfl, hz', _, _, rfl, rfl, _, rfl, ite2d (fun h2 => ?_) (fun h2 => ?_)⟩
    · have e : nmB z = false := by
        unfold nmB
        rw [decide_eq_false (show ¬ z.length ≤ 8 by omega), Bool.and_false]; rfl
      have q' := q H (Same.refl H)
      rw [e] at q'
      exact q'
    refine ⟨_, rfl, z, rfl, ?_⟩
    refine comp_str (fun c => V.bl (inL c)) hz' (fun c H' Q' hc sm k' => ?_) (fun H' sm p hp => ?_)
    · exact ⟨_, rfl, _, _, rfl, rfl, k' _ (Same.refl _)⟩
    · refine ⟨p, z.cps.toList.map inL, rfl, SqL.of (by rw [upd_same, List.map_map]; rfl), ?_⟩
      have e : nmB z = (z.cps.toList.map inL).all id := by
        unfold nmB
        rw [decide_eq_true (show 1 ≤ z.length by omega), decide_eq_true (show z.length ≤ 8 by omega), List.all_map]; rfl
      rw [e] at q
      exact q _ (sm.put hp)

theorem ok_are_names {C : Nat → Addr} (T : Tx K mg C) {f : Addr} {fd : FuncData} (F : Fun K "are_names" "are_names" s_are_names f fd) : FnOk P w K mg base CX0 2 f fd psPAreNames spAre := by
  obtain ⟨f_is_name, fd_is_name, A_is_name⟩ := T.a_is_name
  have G_is_name : FnOk P w K mg base CX0 1 f_is_name fd_is_name psPIsName (spIsN K) := ok_is_name T A_is_name.F
  refine F.ok scPAreNames (fun vs H Q E h => ?_) (fun cdv A outer s H vs Q E hr h => ?_)
  · obtain ⟨z, m, rfl, _⟩ := h
    rfl
  · obtain ⟨z, m, rfl, hz, q⟩ := h
    have hr1 : Room 1 _ := hr
    refine ⟨_, QSs.h (qss_cons (qs_set (i := 2) scPAreNames.nd rfl (Or.inl rfl) (pe_bm PySem.F.plainAttrs_str PySem.F.slot_str_split PySem.F.type_str_split mt_split (pv 0) (pa_cons pe_str pa_nil)))
      (qss_one (qs_ret (pe_and (pe_cmpR op_le (pe_callB call_len_seq (by rfl) T.len PySem.boot_len (pa_cons (pv 2) pa_nil)) (pv 1) (nomark _)) (pe_one (pe_callB (call_all rfl) (by rfl) T.all PyProof.Rows.boot_all (pa_cons (pe_comp (N := ["name"]) [none] rfl (by kernel_rfl) (pi_list (pv 2)) (fun cl C fp s H => (pg_name (i := 0) (by decide +kernel : (["name"] : List Str).Nodup) rfl (Or.inl rfl))) (fun cl C fp s H => pf_nil) (fun cl C fp s H => (pcall A_is_name G_is_name hr1 (pa_cons (pv 0) pa_nil)))) pa_nil))))))), ?_⟩
    refine ⟨_, rfl, rfl, _, _, rfl, rfl, dotlen0, Nat.le_trans (show z.length + 2 ≤ 1002 by omega) (by decide), fun p hp => ?_⟩
    have hlen := split_few z ("." : Str) (Nat.le_trans (show z.length + 2 ≤ 1002 by omega) (by decide))
    refine ⟨_, rfl, p, _, rfl, .inl (SqL.of upd_same), _, rfl, _, _, rfl, rfl, _, rfl, ite2d (fun h1 => ?_) (fun h1 => ?_)⟩
    · rw [List.length_map] at h1
      refine ⟨_, rfl, p, rfl, ⟨_, SqL.of upd_same⟩, ?_⟩
      refine comp_list (fun v => match v with | .str y => .bl (nmB y) | _ => .non) (by rw [List.length_map]; exact hlen) (SqL.of upd_same) (fun x H' Q' hx sm k' => ?_) (fun H' sm p2 hp2 => ?_)
      · obtain ⟨y, hy, rfl⟩ := List.mem_map.mp hx
        exact ⟨_, rfl, y, rfl, Nat.le_trans (split_dot hy) hz, k'⟩
      · refine ⟨p2, (Txt.split z ("." : Str)).map nmB, rfl, SqL.of (by rw [upd_same, List.map_map, List.map_map]; rfl), ?_⟩
        have e : (decide (((Txt.split z ("." : Str)).length : Int) ≤ m) && (Txt.split z ("." : Str)).all nmB) = ((Txt.split z ("." : Str)).map nmB).all id := by
          rw [decide_eq_true h1, List.all_map]; rfl
        rw [e] at q
        exact q _ (((Same.new hp).trans sm).put hp2)
    · rw [List.length_map] at h1
      have q' := q _ (Same.new (o := .lst ((Txt.split z ("." : Str)).map V.str)) hp)
      rw [decide_eq_false h1] at q'
      exact q'

theorem ok_is_address {C : Nat → Addr} (T : Tx K mg C) {f : Addr} {fd : FuncData} (F : Fun K "is_address" "is_address" s_is_address f fd) : FnOk P w K mg base CX0 3 f fd psPIsAddress spIsA := by
  obtain ⟨f_are_names, fd_are_names, A_are_names⟩ := T.a_are_names
  have G_are_names : FnOk P w K mg base CX0 2 f_are_names fd_are_names psPAreNames spAre := ok_are_names T A_are_names.F
  refine F.ok scPIsAddress (fun vs H Q E h => ?_) (fun cdv A outer s H vs Q E hr h => ?_)
  · obtain ⟨ys, rfl, _⟩ := h
    rfl
  · obtain ⟨ys, rfl, g, q⟩ := h
    have hr2 : Room 2 _ := hr
    refine ⟨_, QSs.h (qss_one (qs_ret (pe_and (pe_callB call_inst (by rfl) T.inst PyProof.Rows.boot_isinstance (pa_cons (pv 0) (pa_cons (pe_bltn (v := .ty "str") (by rfl) T.t_str PyProof.Rows.boot_str rfl) pa_nil))) (pe_one (pcall A_are_names G_are_names hr2 (pa_cons (pv 0) (pa_cons (pgl_int T.g_MOST_NAMES) pa_nil))))))), ?_⟩
    refine ⟨_, rfl, _, _, _, _, rfl, .str _, kit_same, _, rfl, iteT ⟨_, rfl, dotted ys, 3, rfl, Nat.le_trans g.len (by decide), fun H' s' => ?_⟩⟩
    rw [adB_good g]
    exact q H' s'

theorem ok_is_number {C : Nat → Addr} (T : Tx K mg C) {f : Addr} {fd : FuncData} (F : Fun K "is_number" "is_number" s_is_number f fd) : FnOk P w K mg base CX0 1 f fd psPIsNumber spNum := by
  refine F.ok scPIsNumber (fun vs H Q E h => ?_) (fun cdv A outer s H vs Q E hr h => ?_)
  · obtain ⟨z, rfl, _⟩ := h
    rfl
  · obtain ⟨z, rfl, hz, q⟩ := h
    refine ⟨_, QSs.h (qss_cons (qs_if (PW.pt (pw_or (pt_cmpR op_lt (pe_callB call_len_str (by rfl) T.len PySem.boot_len (pa_cons (pv 0) pa_nil)) pe_int (nomark _)) (pw_or1 (pt_cmpR op_gt (pe_callB call_len_str (by rfl) T.len PySem.boot_len (pa_cons (pv 0) pa_nil)) (pgl_int T.g_MOST_FIGURES) (nomark _))))) (qss_one (qs_ret pe_bl)) qss_nil)
      (qss_cons (qs_if (PW.pt (pw_and (pt_cmpR op_eq (pe_ix ix_str (pv 0) pe_int (fun _ _ => rfl)) pe_str (nomark _)) (pw_and1 (pt_cmpR op_ne (pv 0) pe_str (nomark _))))) (qss_one (qs_ret pe_bl)) qss_nil)
      (qss_one (qs_ret (pe_callB (call_all rfl) (by rfl) T.all PyProof.Rows.boot_all (pa_cons (pe_comp (N := ["sign"]) [none] rfl (by kernel_rfl) (pi_str (pv 0)) (fun cl C fp s H => (pg_name (i := 0) (by decide +kernel : (["sign"] : List Str).Nodup) rfl (Or.inl rfl))) (fun cl C fp s H => pf_nil) (fun cl C fp s H => (pe_cmpR op_in_str (pv 0) (pgl_str T.g_FIGURES) (by rfl)))) pa_nil)))))), ?_⟩
    have hz' : z.length ≤ sizeLine := Nat.le_trans hz (by decide)
    have q0 := q H (Same.refl H)
    refine ⟨_, rfl, _, rfl, hz', _, _, rfl, rfl, _, rfl, ite2d (fun h1 => iteT ?_) (fun h1 => ?_)⟩
    · have e : numB z = false := by
        unfold numB
        rw [decide_eq_false (by omega)]; rfl
      rw [e] at q0
      exact q0
    refine ⟨_, rfl, _, rfl, hz', _, _, rfl, rfl, _, rfl, ite2d (fun h2 => ?_) (fun h2 => ?_)⟩
    · have e : numB z = false := by
        unfold numB
        rw [decide_eq_false (show ¬ z.length ≤ 20 by omega), Bool.and_false]; rfl
      rw [e] at q0
      exact q0
    cases hcs : z.cps.toList with
    | nil => exact absurd (by rw [strLen, hcs]; rfl : z.length = 0) (by omega)
    | cons c0 cr =>
    have hat : atI z.cps.toList 0 = some c0 := atI_nat (j := 0) (by rw [hcs]; rfl)
    have rest : numB z = (z.cps.toList.map inF).all id → tRet (tCB (rAll K fun bs => bs.all id) (tCons (tComp [none] (iStr (tVar 0)) (gName 0) tYes (tOp (fun x y H Q => ∃ i j, x = .str i ∧ y = .str j ∧ Q (.bl (!(Builtin.Str.occurrences j i 0 j.length 1).isEmpty)) H) (tVar 0) (tC (.str figs)))) tNil))
        { nx := fun _ H' => Q .non H', rt := Q } (start ["word"] [V.str z]) H := fun e => by
      refine ⟨_, rfl, z, rfl, ?_⟩
      refine comp_str (fun c => V.bl (inF c)) hz' (fun c H' Q' hc sm k' => ?_) (fun H' sm p hp => ?_)
      · exact ⟨_, rfl, _, _, rfl, rfl, k' _ (Same.refl _)⟩
      · refine ⟨p, z.cps.toList.map inF, rfl, SqL.of (by rw [upd_same, List.map_map]; rfl), ?_⟩
        rw [e] at q
        exact q _ (sm.put hp)
    have hnum : numB z = (!(decide (c0 = 48) && !decide (z = zero)) && (z.cps.toList.map inF).all id) := by
      unfold numB
      rw [decide_eq_true (show 1 ≤ z.length by omega), decide_eq_true (show z.length ≤ 20 by omega), List.all_map, hcs]
      have : decide ((c0 :: cr).head? = some 48) = decide (c0 = 48) := by
        by_cases h : c0 = 48
        · rw [decide_eq_true h, decide_eq_true (by rw [h]; rfl)]
        · rw [decide_eq_false h, decide_eq_false (fun z => h (by simpa using z))]
      rw [this]
      rfl
    refine ⟨_, rfl, z, _, c0, rfl, rfl, hz', hat, rfl, _, rfl, ite2d (fun h3 => ?_) (fun h3 => ?_)⟩
    · have hc : c0 = 48 := by
        have e : (⟨#[c0]⟩ : Str) = ("0" : Str) := V.str.inj h3
        have e2 := congrArg (fun x : Str => x.cps.toList) e
        have e3 : (("0" : Str)).cps.toList = [48] := by decide +kernel
        rw [e3] at e2
        simpa using e2
      by_cases hz0 : z = zero
      · have hv : V.str z = V.str "0" := congrArg V.str hz0
        refine ⟨_, rfl, rfl, _, rfl, iteNTb (decide_eq_true hv) (rest ?_)⟩
        rw [hnum, decide_eq_true hz0, Bool.not_true, Bool.and_false]; rfl
      · have hv : ¬ V.str z = V.str "0" := fun e => hz0 (V.str.inj e)
        refine ⟨_, rfl, rfl, _, rfl, iteNFb (decide_eq_false hv) ?_⟩
        rw [hnum, decide_eq_true hc, decide_eq_false hz0] at q0
        exact q0
    · have hc : ¬ c0 = 48 := fun e => h3 (by subst e; exact congrArg V.str (strExt (by decide +kernel)))
      refine iteF (rest ?_)
      rw [hnum, decide_eq_false hc]; rfl

theorem ok_read_path {C : Nat → Addr} (T : Tx K mg C) {f : Addr} {fd : FuncData} (F : Fun K "read_path" "read_path" s_read_path f fd) : FnOk P w K mg base CX0 3 f fd psPReadPath spPath := by
  obtain ⟨f_are_names, fd_are_names, A_are_names⟩ := T.a_are_names
  have G_are_names : FnOk P w K mg base CX0 2 f_are_names fd_are_names psPAreNames spAre := ok_are_names T A_are_names.F
  refine F.ok scPReadPath (fun vs H Q E h => ?_) (fun cdv A outer s H vs Q E hr h => ?_)
  · obtain ⟨z, ys, rfl, _⟩ := h
    rfl
  · obtain ⟨z, ys, rfl, rfl, hg, q⟩ := h
    have hr2 : Room 2 _ := hr
    refine ⟨_, QSs.h (qss_cons (qs_if (pt_not (pt_val (pcall A_are_names G_are_names hr2 (pa_cons (pv 0) (pa_cons (pgl_int T.g_MOST_STEPS) pa_nil))))) (qss_one qs_never) qss_nil)
      (qss_one (qs_ret (pe_callTy call_tuple_of (by rfl) T.t_tuple PyProof.Rows.boot_tuple (pa_cons (pe_bm PySem.F.plainAttrs_str PySem.F.slot_str_split PySem.F.type_str_split mt_split (pv 0) (pa_cons pe_str pa_nil)) pa_nil))))), ?_⟩
    have hl := hg.len
    have hsp := dotted_split ys hg.lo hg.nm
    have e : (decide (((Txt.split (dotted ys) ("." : Str)).length : Int) ≤ 4) && (Txt.split (dotted ys) ("." : Str)).all nmB) = true := by
      rw [hsp, decide_eq_true (by have := hg.hi; omega), List.all_eq_true.mpr fun y hy => (hg.nm y hy).nmB]; rfl
    refine ⟨_, rfl, dotted ys, 4, rfl, by omega, fun H1 s1 => ⟨_, rfl, iteNTb e ?_⟩⟩
    refine ⟨_, rfl, rfl, _, _, rfl, rfl, dotlen0, Nat.le_trans (show (dotted ys).length + 2 ≤ 1002 by omega) (by decide), fun p hp => ?_⟩
    refine ⟨p, _, rfl, .inl ⟨SqL.of upd_same, fun r hr' => ?_⟩⟩
    refine q r _ ((s1.put hp).put hr') ?_
    rw [upd_same, hsp]

theorem ok_read_term {C : Nat → Addr} (T : Tx K mg C) {f : Addr} {fd : FuncData} (F : Fun K "read_term" "read_term" s_read_term f fd) : FnOk P w K mg base CX0 4 f fd psPReadTerm spReadT := by
  obtain ⟨f_is_number, fd_is_number, A_is_number⟩ := T.a_is_number
  have G_is_number : FnOk P w K mg base CX0 1 f_is_number fd_is_number psPIsNumber spNum := ok_is_number T A_is_number.F
  obtain ⟨f_read_path, fd_read_path, A_read_path⟩ := T.a_read_path
  have G_read_path : FnOk P w K mg base CX0 3 f_read_path fd_read_path psPReadPath spPath := ok_read_path T A_read_path.F
  refine F.ok scPReadTerm (fun vs H Q E h => ?_) (fun cdv A outer s H vs Q E hr h => ?_)
  · obtain ⟨sg, th, z, rfl, _⟩ := h
    rfl
  · obtain ⟨sg, th, z, rfl, hw, hg, q⟩ := h
    have hr1 : Room 1 _ := hr.mono (by decide)
    have hr3 : Room 3 _ := hr
    refine ⟨_, QSs.h (qss_cons (qs_if (pt_val (pcall A_is_number G_is_number hr1 (pa_cons (pv 1) pa_nil))) (qss_one (qs_ret (pe_tup (pa_cons (pv 0) (pa_cons pe_str (pa_cons (pe_callTy call_int_str (by rfl) T.t_int PyProof.Rows.boot_int (pa_cons (pv 1) pa_nil)) pa_nil)))))) qss_nil)
      (qss_cons (qs_if (pt_val (pe_bm PySem.F.plainAttrs_str PySem.F.slot_str_endswith PySem.F.type_str_endswith mt_endswith (pv 1) (pa_cons pe_str pa_nil))) (qss_one (qs_ret (pe_tup (pa_cons (pv 0) (pa_cons pe_str (pa_cons (pcall A_read_path G_read_path hr3 (pa_cons (pe_slice sl_str (pv 1) po_none (po_some (pe_un un_neg pe_int))) pa_nil)) pa_nil)))))) qss_nil)
      (qss_one (qs_ret (pe_tup (pa_cons (pv 0) (pa_cons pe_str (pa_cons (pcall A_read_path G_read_path hr3 (pa_cons (pv 1) pa_nil)) pa_nil)))))))), ?_⟩
    have hl := word_len hg
    rw [← hw] at hl
    cases th with
    | num m =>
      have hw' : z = numS m := hw
      subst hw'
      obtain ⟨n1, n2, n3, n4⟩ := numS_ok hg
      refine ⟨_, rfl, numS m, rfl, by omega, fun H1 s1 => ⟨_, rfl, iteTb n1 ?_⟩⟩
      refine ⟨_, rfl, _, rfl, numS m, _, rfl, n4, by omega, by show 3 ≤ sizeLine; decide, fun p hp => ?_⟩
      exact q _ _ (s1.put hp) ⟨p, _, rfl, upd_same, rfl⟩
    | nms c ys =>
      have hg' : GoodN ys := hg
      obtain ⟨lc, hlc, lo, hi⟩ := dotted_letter hg'.lo hg'.nm
      cases c with
      | true =>
        have hw' : z = dotted ys ++ brk := hw
        subst hw'
        have en : numB (dotted ys ++ brk) = false := numB_let (c := lc) (by rw [strApp]; exact List.mem_append_left _ hlc) lo hi
        refine ⟨_, rfl, _, rfl, by omega, fun H1 s1 => ⟨_, rfl, iteFb en ?_⟩⟩
        have ee : Txt.endswith (dotted ys ++ brk) ("()" : Str) = true := ends_call _
        refine ⟨_, rfl, rfl, _, _, rfl, rfl, _, rfl, iteTb ee ?_⟩
        refine ⟨_, rfl, _, rfl, _, rfl, _, rfl, _, rfl, Nat.le_trans hl (by decide), _, ys, rfl, cut_call _ (by have := hg'.len; omega), hg', fun p2 H2 s2 hp2 => ?_⟩
        refine ⟨by show 3 ≤ sizeLine; decide, fun p hp => ?_⟩
        exact q _ _ ((s1.trans s2).put hp) ⟨p, _, rfl, upd_same, p2, rfl, (Same.new hp) _ _ hp2⟩
      | false =>
        have hw' : z = dotted ys := hw
        subst hw'
        have en : numB (dotted ys) = false := numB_let hlc lo hi
        refine ⟨_, rfl, _, rfl, by omega, fun H1 s1 => ⟨_, rfl, iteFb en ?_⟩⟩
        have ee : Txt.endswith (dotted ys) ("()" : Str) = false := ends_path hg'.nm
        refine ⟨_, rfl, rfl, _, _, rfl, rfl, _, rfl, iteFb ee ?_⟩
        refine ⟨_, rfl, _, rfl, _, ys, rfl, rfl, hg', fun p2 H2 s2 hp2 => ?_⟩
        refine ⟨by show 3 ≤ sizeLine; decide, fun p hp => ?_⟩
        exact q _ _ ((s1.trans s2).put hp) ⟨p, _, rfl, upd_same, p2, rfl, (Same.new hp) _ _ hp2⟩

theorem ok_read_sign {C : Nat → Addr} (T : Tx K mg C) {f : Addr} {fd : FuncData} (F : Fun K "read_sign" "read_sign" s_read_sign f fd) : FnOk P w K mg base CX0 1 f fd psPReadSign spSign := by
  refine F.ok scPReadSign (fun vs H Q E h => ?_) (fun cdv A outer s H vs Q E hr h => ?_)
  · obtain ⟨s, rfl, _⟩ := h
    rfl
  · obtain ⟨s, rfl, hs, q⟩ := h
    refine ⟨_, QSs.h (qss_cons (qs_if (pt_cmpR op_eq (pv 0) pe_str (nomark _)) (qss_one (qs_ret pe_int)) qss_nil)
      (qss_cons (qs_if (pt_cmpR op_eq (pv 0) pe_str (nomark _)) (qss_one (qs_ret (pe_un un_neg pe_int))) qss_nil)
      (qss_one qs_never))), ?_⟩
    rcases hs with rfl | rfl
    · exact ⟨_, rfl, rfl, _, rfl, iteTb (decide_eq_true (show V.str (sgw 1) = V.str "+" from rfl)) (q H (Same.refl H))⟩
    · exact ⟨_, rfl, rfl, _, rfl, iteFb (decide_eq_false (show ¬ V.str (sgw (-1)) = V.str "+" from by decide +kernel)) ⟨_, rfl, rfl, _, rfl, iteTb (decide_eq_true (show V.str (sgw (-1)) = V.str "-" from rfl)) ⟨_, rfl, q H (Same.refl H)⟩⟩⟩

theorem ok_read_expr {C : Nat → Addr} (T : Tx K mg C) {f : Addr} {fd : FuncData} (F : Fun K "read_expr" "read_expr" s_read_expr f fd) : FnOk P w K mg base CX0 5 f fd psPReadExpr spRead := by
  obtain ⟨f_read_term, fd_read_term, A_read_term⟩ := T.a_read_term
  have G_read_term : FnOk P w K mg base CX0 4 f_read_term fd_read_term psPReadTerm spReadT := ok_read_term T A_read_term.F
  obtain ⟨f_read_sign, fd_read_sign, A_read_sign⟩ := T.a_read_sign
  have G_read_sign : FnOk P w K mg base CX0 1 f_read_sign fd_read_sign psPReadSign spSign := ok_read_sign T A_read_sign.F
  refine F.ok scPReadExpr (fun vs H Q E h => ?_) (fun cdv A outer s H vs Q E hr h => ?_)
  · obtain ⟨ts, rfl, _⟩ := h
    rfl
  · obtain ⟨ts, rfl, hg, q⟩ := h
    have hr1 : Room 1 _ := hr.mono (by decide)
    have hr4 : Room 4 _ := hr
    refine ⟨_, QSs.h (qss_cons (qs_if (pt_not (pt_val (pe_callB call_inst (by rfl) T.inst PyProof.Rows.boot_isinstance (pa_cons (pv 0) (pa_cons (pe_bltn (v := .ty "str") (by rfl) T.t_str PyProof.Rows.boot_str rfl) pa_nil))))) (qss_one qs_never) qss_nil)
      (qss_cons (qs_set (i := 1) scPReadExpr.nd rfl (Or.inl rfl) (pe_bm PySem.F.plainAttrs_str PySem.F.slot_str_split PySem.F.type_str_split mt_split (pv 0) (pa_cons pe_str pa_nil)))
      (qss_cons (qs_if (pt_cmpR op_eq (pe_op op_mod (pe_callB call_len_seq (by rfl) T.len PySem.boot_len (pa_cons (pv 1) pa_nil)) pe_int) pe_int (nomark _)) (qss_one qs_never) qss_nil)
      (qss_cons (qs_if (pt_cmpR op_gt (pe_callB call_len_seq (by rfl) T.len PySem.boot_len (pa_cons (pv 1) pa_nil)) (pe_op op_sub (pe_op op_mul pe_int (pgl_int T.g_MOST_TERMS)) pe_int) (nomark _)) (qss_one qs_never) qss_nil)
      (qss_cons (qs_set (i := 2) scPReadExpr.nd rfl (Or.inl rfl) (pe_lst (pa_cons (pcall A_read_term G_read_term hr4 (pa_cons pe_int (pa_cons (pe_ix ix_list (pv 1) pe_int (fun _ _ => rfl)) pa_nil))) pa_nil)))
      (qss_cons (qs_for PassesOwn.never rfl (pi_range3 (by rfl) T.range (pa_cons pe_int (pa_cons (pe_callB call_len_seq (by rfl) T.len PySem.boot_len (pa_cons (pv 1) pa_nil)) (pa_cons pe_int pa_nil)))) (pg_name (i := 3) scPReadExpr.nd rfl (Or.inl rfl))
      (qss_one (qs_expr (pe_bm PySem.F.plainAttrs_list PySem.F.slot_list_append PySem.F.type_list_append mt_append (pv 2) (pa_cons (pcall A_read_term G_read_term hr4 (pa_cons (pcall A_read_sign G_read_sign hr1 (pa_cons (pe_ix ix_list (pv 1) (pv 3) (fun _ _ => rfl)) pa_nil)) (pa_cons (pe_ix ix_list (pv 1) (pe_op op_add (pv 3) pe_int) (fun _ _ => rfl)) pa_nil))) pa_nil)))))
      (qss_one (qs_ret (pv 2))))))))), ?_⟩
    have hlen := wordsOf_len hg.lo
    have h6 := hg.hi
    have htl := textOf_len hg.ok
    cases ts with
    | nil => exact absurd rfl hg.lo
    | cons t0 tr =>
    have hn1 : (t0 :: tr).length = tr.length + 1 := rfl
    refine ⟨_, rfl, _, _, _, _, rfl, .str _, kit_same, _, rfl, iteF ?_⟩
    refine ⟨_, rfl, rfl, _, _, rfl, rfl, blanklen0, Nat.le_trans (show (textOf (t0 :: tr)).length + 2 ≤ 1000 by omega) big1000, fun p hp => ?_⟩
    rw [text_split hg]
    have s1 : Same H (upd H p (.lst ((wordsOf (t0 :: tr)).map V.str))) := Same.new hp
    have hp1 : upd H p (.lst ((wordsOf (t0 :: tr)).map V.str)) p = some (.lst ((wordsOf (t0 :: tr)).map V.str)) := upd_same
    generalize upd H p (.lst ((wordsOf (t0 :: tr)).map V.str)) = H1 at s1 hp1
    refine ⟨_, rfl, p, _, rfl, .inl (SqL.of hp1), _, _, rfl, rfl, (by show (0 : Int) < 2; decide), rfl, _, rfl, iteVi (fun h => ?_) (fun _ => ?_)⟩
    · rw [List.length_map] at h; omega
    refine ⟨_, rfl, p, _, rfl, .inl (SqL.of hp1), _, _, rfl, rfl, .inl ⟨by decide, by decide⟩, _, _, rfl, rfl, _, _, rfl, rfl, _, rfl, ite2d (fun h => ?_) (fun _ => ?_)⟩
    · rw [List.length_map] at h; omega
    have sg0 : t0.sg = 1 := hg.hd t0 rfl
    refine ⟨_, rfl, p, _, _, V.str (wordOf t0.th), rfl, rfl, SqL.of hp1, atI_nat (j := 0) rfl, 1, t0.th, _, rfl, rfl, (hg.ok t0 List.mem_cons_self).th, fun v0 H2 s2 hv0 => ⟨by show 1 ≤ sizeLine; decide, fun l hl => ?_⟩⟩
    have tm0 : TmAt H2 v0 t0 := by
      have e : (⟨1, t0.th⟩ : Trm) = t0 := by cases t0; simp only at sg0; rw [sg0]
      rwa [e] at hv0
    have hfree : H l = none := s1.free (s2.free hl)
    have hp2 : H2 p = some (.lst ((wordsOf (t0 :: tr)).map V.str)) := s2 _ _ hp1
    have hsize : Builtin.Range.rangeSize 1 (((wordsOf (t0 :: tr)).map V.str).length : Int) 2 = (tr.length : Int) := by
      rw [List.length_map, hlen]
      unfold Builtin.Range.rangeSize
      rw [if_pos (by decide)]
      split <;> omega
    refine ⟨_, rfl, p, _, rfl, .inl (SqL.of ((Same.new hl) _ _ hp2)), 1, _, 2, rfl, by decide, by decide, ?_, by rw [hsize]; omega, ?_⟩
    · rw [List.length_map]
      exact small_two (by omega)
    rw [hsize, Int.toNat_natCast]
    refine for_rangeS (fun i σ H' => ∃ v3 xs, σ = [some (.str (textOf (t0 :: tr))), some (.ref p), some (.ref l), v3] ∧ Same H2 H' ∧ H' l = some (.lst xs) ∧ xs.length = i + 1 ∧ ∀ (j : Nat) x, xs[j]? = some x → ∃ t, (t0 :: tr)[j]? = some t ∧ TmAt H' x t)
      ⟨none, [v0], rfl, Same.new hl, upd_same, rfl, fun j x hj => ?_⟩ ?_ ?_
    · cases j with
      | zero => cases hj; exact ⟨t0, rfl, tm0.same (Same.new hl)⟩
      | succ j => simp at hj
    · rintro i σ H3 hi ⟨v3, xs, rfl, sm, h3l, hxl, hx⟩
      have hti : (t0 :: tr)[i + 1]? = some tr[i] := by simp [hi]
      obtain ⟨w1, w2⟩ := words_at hti
      have gt : GoodT tr[i] := hg.ok _ (List.mem_cons_of_mem _ (List.getElem_mem hi))
      have hp3 : H3 p = some (.lst ((wordsOf (t0 :: tr)).map V.str)) := sm _ _ hp2
      have a1 : atI ((wordsOf (t0 :: tr)).map V.str) (1 + (i : Nat) * 2) = some (V.str (sgw tr[i].sg)) := by
        have := atI_nat (xs := (wordsOf (t0 :: tr)).map V.str) (j := 2 * i + 1) (v := V.str (sgw tr[i].sg)) (by rw [List.getElem?_map, w1]; rfl)
        rwa [show (((2 * i + 1 : Nat)) : Int) = 1 + (i : Nat) * 2 from by omega] at this
      have a2 : atI ((wordsOf (t0 :: tr)).map V.str) (1 + (i : Nat) * 2 + 1) = some (V.str (wordOf tr[i].th)) := by
        have := atI_nat (xs := (wordsOf (t0 :: tr)).map V.str) (j := 2 * i + 2) (v := V.str (wordOf tr[i].th)) (by rw [List.getElem?_map, w2]; rfl)
        rwa [show (((2 * i + 2 : Nat)) : Int) = 1 + (i : Nat) * 2 + 1 from by omega] at this
      refine ⟨_, rfl, .inl ⟨rfl, _, SqL.of h3l⟩, _, rfl, _, rfl, p, _, _, _, rfl, rfl, SqL.of hp3, a1, tr[i].sg, rfl, gt.sg, fun H4 s4 => ?_⟩
      refine ⟨_, rfl, _, rfl, _, _, rfl, rfl, p, _, _, _, rfl, rfl, SqL.of (s4 _ _ hp3), a2, tr[i].sg, tr[i].th, _, rfl, rfl, gt.th, fun v H5 s5 hv => ?_⟩
      have s35 := s4.trans s5
      have h5l : H5 l = some (.lst xs) := s35 _ _ h3l
      refine ⟨l, _, _, rfl, rfl, h5l, Nat.lt_of_lt_of_le (show xs.length < 1000 by omega) big1000, ?_⟩
      refine ⟨_, xs ++ [v], rfl, ?_, upd_same, by rw [List.length_append, hxl]; rfl, fun j x hj => ?_⟩
      · exact (sm.trans s35).over hl
      · by_cases hjx : j < xs.length
        · rw [List.getElem?_append_left hjx] at hj
          obtain ⟨t, ht, tm⟩ := hx j x hj
          exact ⟨t, ht, (tm.same s35).upd h5l⟩
        · rw [List.getElem?_append_right (by omega)] at hj
          have hj0 : j = i + 1 := by
            cases hh : j - xs.length with
            | zero => omega
            | succ k => rw [hh] at hj; simp at hj
          subst hj0
          rw [hxl, Nat.sub_self] at hj
          have : v = x := by simpa using hj
          subst this
          exact ⟨tr[i], hti, TmAt.upd hv h5l⟩
    · rintro σ H3 ⟨v3, xs, rfl, sm, h3l, hxl, hx⟩
      exact ⟨_, rfl, q l H3 hfree (s1.trans (s2.trans sm)) ⟨xs, h3l, hxl, hx⟩⟩
theorem ok_has_call {C : Nat → Addr} (T : Tx K mg C) {f : Addr} {fd : FuncData} (F : Fun K "has_call" "has_call" s_has_call f fd) : FnOk P w K mg base CX0 1 f fd psPHasCall spHas := by
  refine F.ok scPHasCall (fun vs H Q E h => ?_) (fun cdv A outer s H vs Q E hr h => ?_)
  · obtain ⟨l, ts, rfl, _⟩ := h
    rfl
  · obtain ⟨l, ts, rfl, ⟨xs, hl, hxl, hx⟩, h10, q⟩ := h
    refine ⟨_, QSs.h (qss_one (qs_ret (pe_callB (call_any rfl) (by rfl) T.any PyProof.Rows.boot_any (pa_cons (pe_comp (N := ["term"]) [none] rfl (by kernel_rfl) (pi_list (pv 0)) (fun cl C fp s H => (pg_name (i := 0) (by decide +kernel : (["term"] : List Str).Nodup) rfl (Or.inl rfl))) (fun cl C fp s H => pf_nil) (fun cl C fp s H => (pe_cmpR op_eq (pe_ix (ix_tupK (K := K) rfl) (pv 0) pe_int (fun _ _ => rfl)) pe_str (nomark _)))) pa_nil)))), ?_⟩
    refine ⟨_, rfl, l, rfl, ⟨_, SqL.of hl⟩, ?_⟩
    refine comp_listI (xs := xs) (fun i => V.bl ((ts[i]?).elim false isCall)) (Nat.le_trans (show xs.length ≤ 1000 by omega) big1000) (SqL.of hl) (fun i x H' Q' ex sm k' => ?_) (fun H' sm p hp => ?_)
    · obtain ⟨t, et, tm⟩ := hx i x ex
      obtain ⟨a, y, rfl, ha, _⟩ := tm.same sm
      have hk := k' H' (Same.refl _)
      rw [et] at hk
      have hk' : Q' (V.bl (isCall t)) H' := hk
      rw [← kind_call] at hk'
      exact ⟨_, rfl, a, _, _, V.str (kindOf t.th), rfl, rfl, SqT.of ha, rfl, rfl, hk'⟩
    · refine ⟨p, (List.range xs.length).map fun i => (ts[i]?).elim false isCall, rfl, SqL.of (by rw [upd_same, List.map_map]; rfl), ?_⟩
      have q' := q _ (sm.put (o := .lst ((List.range xs.length).map fun i => V.bl ((ts[i]?).elim false isCall))) hp)
      rw [← any_range, ← hxl] at q'
      exact q'

theorem ok_names_expr {C : Nat → Addr} (T : Tx K mg C) {f : Addr} {fd : FuncData} (F : Fun K "names_expr" "names_expr" s_names_expr f fd) : FnOk P w K mg base CX0 2 f fd psPNamesExpr spNE := by
  obtain ⟨f_is_name, fd_is_name, A_is_name⟩ := T.a_is_name
  have G_is_name : FnOk P w K mg base CX0 1 f_is_name fd_is_name psPIsName (spIsN K) := ok_is_name T A_is_name.F
  refine F.ok scPNamesExpr (fun vs H Q E h => ?_) (fun cdv A outer s H vs Q E hr h => ?_)
  · obtain ⟨l, w0, nn, rest, rfl, _⟩ := h
    rfl
  · obtain ⟨l, w0, nn, rest, rfl, hl, hn, hne, q⟩ := h
    have hr1 : Room 1 _ := hr
    refine ⟨_, QSs.h (qss_one (qs_ret (pe_and (pe_cmpR op_gt (pe_callB call_len_seq (by rfl) T.len PySem.boot_len (pa_cons (pv 0) pa_nil)) pe_int (nomark _)) (pe_and (pcall A_is_name G_is_name hr1 (pa_cons (pe_ix ix_list (pv 0) pe_int (fun _ _ => rfl)) pa_nil)) (pe_one (pe_cmpR op_eq (pe_ix ix_list (pv 0) pe_int (fun _ _ => rfl)) pe_str (nomark _))))))), ?_⟩
    have h3 : (3 : Int) < ((((w0 :: nn :: ("be" : Str) :: rest).map V.str).length : Nat) : Int) := by
      rw [List.length_map]
      simp only [List.length_cons]
      have := List.length_pos_iff.mpr hne
      omega
    refine ⟨_, rfl, l, _, rfl, .inl (SqL.of hl), _, _, rfl, rfl, _, rfl, iteTb (decide_eq_true h3) ?_⟩
    refine ⟨_, rfl, l, _, _, V.str nn, rfl, rfl, SqL.of hl, atI_nat (j := 1) rfl, nn, rfl, Nat.le_trans hn.hi (by decide), fun H1 s1 => ⟨_, rfl, iteTb hn.nmB ?_⟩⟩
    refine ⟨_, rfl, l, _, _, V.str "be", rfl, rfl, SqL.of (s1 _ _ hl), atI_nat (j := 2) rfl, rfl, ?_⟩
    rw [decide_eq_true rfl]
    exact q H1 s1

theorem ok_names_address {C : Nat → Addr} (T : Tx K mg C) {f : Addr} {fd : FuncData} (F : Fun K "names_address" "names_address" s_names_address f fd) : FnOk P w K mg base CX0 4 f fd psPNamesAddress spNA := by
  obtain ⟨f_is_address, fd_is_address, A_is_address⟩ := T.a_is_address
  have G_is_address : FnOk P w K mg base CX0 3 f_is_address fd_is_address psPIsAddress spIsA := ok_is_address T A_is_address.F
  obtain ⟨f_is_name, fd_is_name, A_is_name⟩ := T.a_is_name
  have G_is_name : FnOk P w K mg base CX0 1 f_is_name fd_is_name psPIsName (spIsN K) := ok_is_name T A_is_name.F
  refine F.ok scPNamesAddress (fun vs H Q E h => ?_) (fun cdv A outer s H vs Q E hr h => ?_)
  · obtain ⟨l, w0, ys, nn, rfl, _⟩ := h
    rfl
  · obtain ⟨l, w0, ys, nn, rfl, hl, ga, hn, q⟩ := h
    have hr1 : Room 1 _ := hr.mono (by decide)
    have hr3 : Room 3 _ := hr
    refine ⟨_, QSs.h (qss_one (qs_ret (pe_and (pe_cmpR op_eq (pe_callB call_len_seq (by rfl) T.len PySem.boot_len (pa_cons (pv 0) pa_nil)) pe_int (nomark _)) (pe_and (pcall A_is_address G_is_address hr3 (pa_cons (pe_ix ix_list (pv 0) pe_int (fun _ _ => rfl)) pa_nil)) (pe_and (pe_cmpR op_eq (pe_ix ix_list (pv 0) pe_int (fun _ _ => rfl)) pe_str (nomark _)) (pe_one (pcall A_is_name G_is_name hr1 (pa_cons (pe_ix ix_list (pv 0) pe_int (fun _ _ => rfl)) pa_nil)))))))), ?_⟩
    refine ⟨_, rfl, l, _, rfl, .inl (SqL.of hl), rfl, _, rfl, iteTb (decide_eq_true rfl) ?_⟩
    refine ⟨_, rfl, l, _, _, V.str (dotted ys), rfl, rfl, SqL.of hl, atI_nat (j := 1) rfl, ys, rfl, ga, fun H1 s1 => ⟨_, rfl, iteT ?_⟩⟩
    refine ⟨_, rfl, l, _, _, V.str "as", rfl, rfl, SqL.of (s1 _ _ hl), atI_nat (j := 2) rfl, rfl, _, rfl, iteTb (decide_eq_true rfl) ?_⟩
    refine ⟨_, rfl, l, _, _, V.str nn, rfl, rfl, SqL.of (s1 _ _ hl), atI_nat (j := 3) rfl, nn, rfl, Nat.le_trans hn.hi (by decide), fun H2 s2 => ?_⟩
    rw [hn.nmB]
    exact q H2 (s1.trans s2)

theorem ok_names_word {C : Nat → Addr} (T : Tx K mg C) {f : Addr} {fd : FuncData} (F : Fun K "names_word" "names_word" s_names_word f fd) : FnOk P w K mg base CX0 4 f fd psPNamesWord spNW := by
  obtain ⟨f_is_name, fd_is_name, A_is_name⟩ := T.a_is_name
  have G_is_name : FnOk P w K mg base CX0 1 f_is_name fd_is_name psPIsName (spIsN K) := ok_is_name T A_is_name.F
  obtain ⟨f_is_address, fd_is_address, A_is_address⟩ := T.a_is_address
  have G_is_address : FnOk P w K mg base CX0 3 f_is_address fd_is_address psPIsAddress spIsA := ok_is_address T A_is_address.F
  refine F.ok scPNamesWord (fun vs H Q E h => ?_) (fun cdv A outer s H vs Q E hr h => ?_)
  · obtain ⟨l, w0, ww, ys, nn, rfl, _⟩ := h
    rfl
  · obtain ⟨l, w0, ww, ys, nn, rfl, hl, hw, ga, hn, q⟩ := h
    have hr1 : Room 1 _ := hr.mono (by decide)
    have hr3 : Room 3 _ := hr
    refine ⟨_, QSs.h (qss_cons (qs_if (PW.pt (pw_or (pt_cmpR op_ne (pe_callB call_len_seq (by rfl) T.len PySem.boot_len (pa_cons (pv 0) pa_nil)) pe_int (nomark _)) (pw_or (pt_cmpR op_ne (pe_ix ix_list (pv 0) pe_int (fun _ _ => rfl)) pe_str (nomark _)) (pw_or1 (pt_cmpR op_ne (pe_ix ix_list (pv 0) pe_int (fun _ _ => rfl)) pe_str (nomark _)))))) (qss_one (qs_ret pe_bl)) qss_nil)
      (qss_one (qs_ret (pe_and (pcall A_is_name G_is_name hr1 (pa_cons (pe_ix ix_list (pv 0) pe_int (fun _ _ => rfl)) pa_nil)) (pe_and (pcall A_is_address G_is_address hr3 (pa_cons (pe_ix ix_list (pv 0) pe_int (fun _ _ => rfl)) pa_nil)) (pe_one (pcall A_is_name G_is_name hr1 (pa_cons (pe_ix ix_list (pv 0) pe_int (fun _ _ => rfl)) pa_nil)))))))), ?_⟩
    refine ⟨_, rfl, l, _, rfl, .inl (SqL.of hl), rfl, _, rfl, iteNe rfl ?_⟩
    refine ⟨_, rfl, l, _, _, V.str "from", rfl, rfl, SqL.of hl, atI_nat (j := 2) rfl, rfl, _, rfl, iteNe rfl ?_⟩
    refine ⟨_, rfl, l, _, _, V.str "as", rfl, rfl, SqL.of hl, atI_nat (j := 4) rfl, rfl, _, rfl, iteNe rfl ?_⟩
    refine ⟨_, rfl, l, _, _, V.str ww, rfl, rfl, SqL.of hl, atI_nat (j := 1) rfl, ww, rfl, Nat.le_trans hw.hi (by decide), fun H1 s1 => ⟨_, rfl, iteTb hw.nmB ?_⟩⟩
    refine ⟨_, rfl, l, _, _, V.str (dotted ys), rfl, rfl, SqL.of (s1 _ _ hl), atI_nat (j := 3) rfl, ys, rfl, ga, fun H2 s2 => ⟨_, rfl, iteT ?_⟩⟩
    refine ⟨_, rfl, l, _, _, V.str nn, rfl, rfl, SqL.of (s2 _ _ (s1 _ _ hl)), atI_nat (j := 5) rfl, nn, rfl, Nat.le_trans hn.hi (by decide), fun H3 s3 => ?_⟩
    rw [hn.nmB]
    exact q H3 (s1.trans (s2.trans s3))

theorem ok_terms_from {C : Nat → Addr} (T : Tx K mg C) {f : Addr} {fd : FuncData} (F : Fun K "terms_from" "terms_from" s_terms_from f fd) : FnOk P w K mg base CX0 6 f fd psPTermsFrom spTF := by
  obtain ⟨f_read_expr, fd_read_expr, A_read_expr⟩ := T.a_read_expr
  have G_read_expr : FnOk P w K mg base CX0 5 f_read_expr fd_read_expr psPReadExpr spRead := ok_read_expr T A_read_expr.F
  refine F.ok scPTermsFrom (fun vs H Q E h => ?_) (fun cdv A outer s H vs Q E hr h => ?_)
  · obtain ⟨l, k, ws, ts, rfl, _⟩ := h
    rfl
  · obtain ⟨l, k, ws, ts, rfl, hl, hdr, hg, q⟩ := h
    have hr5 : Room 5 _ := hr
    refine ⟨_, QSs.h (qss_one (qs_ret (pcall A_read_expr G_read_expr hr5 (pa_cons (pe_bm PySem.F.plainAttrs_str PySem.F.slot_str_join PySem.F.type_str_join mt_join pe_str (pa_cons (pe_slice sl_list (pv 0) (po_some (pv 1)) po_none) pa_nil)) pa_nil)))), ?_⟩
    have wn := wordsOf_len hg.lo
    have h6 := hg.hi
    have wsum : ((wordsOf ts).map (·.length)).sum ≤ (wordsOf ts).length * 38 := sum_le fun y hy => by
      rcases wordsOf_mem hy with ⟨t, ht, rfl⟩ | ⟨t, ht, rfl⟩
      · exact word_len (hg.ok t ht).th
      · rw [sgw_len]; decide
    have ec : cutV (ws.map V.str) (some (k : Int)) none = (wordsOf ts).map V.str := by rw [cut_from, ← List.map_drop, hdr]
    refine ⟨rfl, _, rfl, _, rfl, _, rfl, l, _, rfl, SqL.of hl, fun p hp => ?_⟩
    refine ⟨_, p, wordsOf ts, rfl, rfl, .inl (SqL.of (upd_same.trans (congrArg (fun z => some (HO.lst z)) ec))), by rw [blanklen]; omega, ?_⟩
    exact ⟨ts, congrArg (fun z => [V.str z]) (text_join ts), hg, fun l' H' hl' s' ht => q l' H' ((Same.new hp).free hl') ((Same.new hp).trans s') ht⟩

theorem ok_deed_of {C : Nat → Addr} (T : Tx K mg C) {f : Addr} {fd : FuncData} (F : Fun K "deed_of" "deed_of" s_deed_of f fd) : FnOk P w K mg base CX0 3 f fd psPDeedOf (spDO C) := by
  obtain ⟨f_has_call, fd_has_call, A_has_call⟩ := T.a_has_call
  have G_has_call : FnOk P w K mg base CX0 1 f_has_call fd_has_call psPHasCall spHas := ok_has_call T A_has_call.F
  obtain ⟨f_i_Deed, fd_i_Deed, A_i_Deed, M_Deed⟩ := T.i_Deed
  have G_i_Deed : FnOk P w K mg base CX0 1 f_i_Deed fd_i_Deed psPMDeedInit (spIniL C 1) := ok_m_Deed___init__ T A_i_Deed.F
  refine F.ok scPDeedOf (fun vs H Q E h => ?_) (fun cdv A outer s H vs Q E hr h => ?_)
  · obtain ⟨r, d, rfl, _⟩ := h
    rfl
  · obtain ⟨r, d, rfl, hso, hg, htd, q⟩ := h
    have hr1 : Room 1 _ := hr.mono (by decide)
    have hr2 : Room 2 _ := hr
    refine ⟨_, QSs.h (qss_cons (qs_if (pt_val (pcall A_has_call G_has_call hr1 (pa_cons (pv 1) pa_nil))) (qss_one (qs_ret pe_non)) qss_nil)
      (qss_one (qs_ret (rmake M_Deed A_i_Deed.b G_i_Deed hr2 T.c_Deed (pa_cons (pv 0) (pa_cons (pv 1) pa_nil)))))), ?_⟩
    have h6 : r.ts.length ≤ 10 := Nat.le_trans hg.ts.hi (by decide)
    refine ⟨_, rfl, d, r.ts, rfl, htd, h6, fun H1 s1 => ⟨_, rfl, iteFb (no_call hg hso) ?_⟩⟩
    exact ⟨_, rfl, _, rfl, fun x dx hx hdx hne => ⟨x, dx, r, d, rfl, hso, upd_same, (htd.same s1).same (new_ins hx hdx), h6, fun l H' hl sb ra => ⟨rfl, q x l H' (s1.trans fun b o e => sb b o (new_ins hx hdx b o e) (ne_of_none e hx)) (s1.free hx) (s1.free ((new_ins hx hdx).free hl)) ra⟩⟩⟩

theorem ok_row_of {C : Nat → Addr} (T : Tx K mg C) {f : Addr} {fd : FuncData} (F : Fun K "row_of" "row_of" s_row_of f fd) : FnOk P w K mg base CX0 7 f fd psPRowOf (spRO C) := by
  obtain ⟨f_names_expr, fd_names_expr, A_names_expr⟩ := T.a_names_expr
  have G_names_expr : FnOk P w K mg base CX0 2 f_names_expr fd_names_expr psPNamesExpr spNE := ok_names_expr T A_names_expr.F
  obtain ⟨f_deed_of, fd_deed_of, A_deed_of⟩ := T.a_deed_of
  have G_deed_of : FnOk P w K mg base CX0 3 f_deed_of fd_deed_of psPDeedOf (spDO C) := ok_deed_of T A_deed_of.F
  obtain ⟨f_names_address, fd_names_address, A_names_address⟩ := T.a_names_address
  have G_names_address : FnOk P w K mg base CX0 4 f_names_address fd_names_address psPNamesAddress spNA := ok_names_address T A_names_address.F
  obtain ⟨f_names_word, fd_names_word, A_names_word⟩ := T.a_names_word
  have G_names_word : FnOk P w K mg base CX0 4 f_names_word fd_names_word psPNamesWord spNW := ok_names_word T A_names_word.F
  obtain ⟨f_terms_from, fd_terms_from, A_terms_from⟩ := T.a_terms_from
  have G_terms_from : FnOk P w K mg base CX0 6 f_terms_from fd_terms_from psPTermsFrom spTF := ok_terms_from T A_terms_from.F
  obtain ⟨f_i_Draw, fd_i_Draw, A_i_Draw, M_Draw⟩ := T.i_Draw
  have G_i_Draw : FnOk P w K mg base CX0 1 f_i_Draw fd_i_Draw psPMDrawInit (spIniA C 2) := ok_m_Draw___init__ T A_i_Draw.F
  obtain ⟨f_i_Late, fd_i_Late, A_i_Late, M_Late⟩ := T.i_Late
  have G_i_Late : FnOk P w K mg base CX0 1 f_i_Late fd_i_Late psPMLateInit (spIniA C 3) := ok_m_Late___init__ T A_i_Late.F
  obtain ⟨f_i_Let, fd_i_Let, A_i_Let, M_Let⟩ := T.i_Let
  have G_i_Let : FnOk P w K mg base CX0 1 f_i_Let fd_i_Let psPMLetInit (spIniL C 0) := ok_m_Let___init__ T A_i_Let.F
  obtain ⟨f_i_Need, fd_i_Need, A_i_Need, M_Need⟩ := T.i_Need
  have G_i_Need : FnOk P w K mg base CX0 1 f_i_Need fd_i_Need psPMNeedInit (spIniN C) := ok_m_Need___init__ T A_i_Need.F
  obtain ⟨f_i_Take, fd_i_Take, A_i_Take, M_Take⟩ := T.i_Take
  have G_i_Take : FnOk P w K mg base CX0 1 f_i_Take fd_i_Take psPMTakeInit (spIniT C) := ok_m_Take___init__ T A_i_Take.F
  refine F.ok scPRowOf (fun vs H Q E h => ?_) (fun cdv A outer s H vs Q E hr h => ?_)
  · obtain ⟨l, r, rfl, _⟩ := h
    rfl
  · obtain ⟨l, r, rfl, hl, hg, q⟩ := h
    have hr2 : Room 2 _ := hr.mono (by decide)
    have hr3 : Room 3 _ := hr.mono (by decide)
    have hr4 : Room 4 _ := hr.mono (by decide)
    have hr6 : Room 6 _ := hr
    refine ⟨_, QSs.h (qss_cons (qs_set (i := 1) scPRowOf.nd rfl (Or.inl rfl) (pe_ix ix_list (pv 0) pe_int (fun _ _ => rfl)))
      (qss_cons (qs_if (PW.pt (pw_and (pt_cmpR op_eq (pv 1) pe_str (nomark _)) (pw_and1 (pt_val (pcall A_names_expr G_names_expr hr2 (pa_cons (pv 0) pa_nil)))))) (qss_one (qs_ret (rmake M_Let A_i_Let.b G_i_Let hr2 T.c_Let (pa_cons (pe_ix ix_list (pv 0) pe_int (fun _ _ => rfl)) (pa_cons (pcall A_terms_from G_terms_from hr6 (pa_cons (pv 0) (pa_cons pe_int pa_nil))) pa_nil))))) qss_nil)
      (qss_cons (qs_if (PW.pt (pw_and (pt_cmpR op_eq (pv 1) pe_str (nomark _)) (pw_and1 (pt_val (pcall A_names_expr G_names_expr hr2 (pa_cons (pv 0) pa_nil)))))) (qss_one (qs_ret (pcall A_deed_of G_deed_of hr3 (pa_cons (pe_ix ix_list (pv 0) pe_int (fun _ _ => rfl)) (pa_cons (pcall A_terms_from G_terms_from hr6 (pa_cons (pv 0) (pa_cons pe_int pa_nil))) pa_nil))))) qss_nil)
      (qss_cons (qs_if (PW.pt (pw_and (pt_cmpR op_eq (pv 1) pe_str (nomark _)) (pw_and1 (pt_val (pcall A_names_address G_names_address hr4 (pa_cons (pv 0) pa_nil)))))) (qss_one (qs_ret (rmake M_Draw A_i_Draw.b G_i_Draw hr2 T.c_Draw (pa_cons (pe_ix ix_list (pv 0) pe_int (fun _ _ => rfl)) (pa_cons (pe_ix ix_list (pv 0) pe_int (fun _ _ => rfl)) pa_nil))))) qss_nil)
      (qss_cons (qs_if (PW.pt (pw_and (pt_cmpR op_eq (pv 1) pe_str (nomark _)) (pw_and1 (pt_val (pcall A_names_address G_names_address hr4 (pa_cons (pv 0) pa_nil)))))) (qss_one (qs_ret (rmake M_Late A_i_Late.b G_i_Late hr2 T.c_Late (pa_cons (pe_ix ix_list (pv 0) pe_int (fun _ _ => rfl)) (pa_cons (pe_ix ix_list (pv 0) pe_int (fun _ _ => rfl)) pa_nil))))) qss_nil)
      (qss_cons (qs_if (PW.pt (pw_and (pt_cmpR op_eq (pv 1) pe_str (nomark _)) (pw_and1 (pt_val (pcall A_names_word G_names_word hr4 (pa_cons (pv 0) pa_nil)))))) (qss_one (qs_ret (rmake M_Take A_i_Take.b G_i_Take hr2 T.c_Take (pa_cons (pe_ix ix_list (pv 0) pe_int (fun _ _ => rfl)) (pa_cons (pe_ix ix_list (pv 0) pe_int (fun _ _ => rfl)) (pa_cons (pe_ix ix_list (pv 0) pe_int (fun _ _ => rfl)) pa_nil)))))) qss_nil)
      (qss_cons (qs_if (pt_cmpR op_eq (pv 1) pe_str (nomark _)) (qss_one (qs_ret (rmake M_Need A_i_Need.b G_i_Need hr2 T.c_Need (pa_cons (pcall A_terms_from G_terms_from hr6 (pa_cons (pv 0) (pa_cons pe_int pa_nil))) pa_nil)))) qss_nil)
      (qss_one (qs_ret pe_non))))))))), ?_⟩
    obtain ⟨so, nn, aa, ww, tt⟩ := r
    have h5 : so ≤ 5 := hg.so
    have h6 : tt.length ≤ 10 := Nat.le_trans hg.ts.hi (by decide)
    have gts : GoodTs tt := hg.ts
    have gw : IsNm ww := hg.wd
    obtain ⟨ys, ga, ea⟩ := hg.ad
    have ea : aa = dotted ys := ea
    subst ea
    rcases six h5 with rfl | rfl | rfl | rfl | rfl | rfl
    · have hl : H l = some (.lst ((("let" : Str) :: nn :: "be" :: wordsOf tt).map V.str)) := hl
      refine ⟨_, rfl, l, _, _, V.str (sortW 0), rfl, rfl, SqL.of hl, atI_nat (j := 0) rfl, ?_⟩
      refine ⟨_, rfl, rfl, _, rfl, iteTb (sT 0) ⟨_, rfl, l, "let", nn, wordsOf tt, rfl, hl, hg.nm (show 0 < 5 by decide), wordsOf_ne gts.lo, fun H1 s1 => ⟨_, rfl, iteT ?_⟩⟩⟩
      have hl1 := s1 _ _ hl
      exact ⟨_, rfl, l, _, _, V.str nn, rfl, rfl, SqL.of hl1, atI_nat (j := 1) rfl, _, rfl, l, 3, _, tt, rfl, hl1, rfl, gts, fun d H2 hd2 s2 htd => fun x dx hx hdx hne => ⟨x, dx, ⟨0, nn, dotted ys, ww, tt⟩, d, rfl, rfl, upd_same, htd.same (new_ins hx hdx), h6, fun l' H' hl' sb ra => ⟨rfl, q x l' H' (s1.trans (s2.trans (fun b o e => sb b o (new_ins hx hdx b o e) (ne_of_none e hx)))) ((s1.trans s2).free hx) ((s1.trans s2).free ((new_ins hx hdx).free hl')) ra⟩⟩⟩
    · have hl : H l = some (.lst ((("deed" : Str) :: nn :: "be" :: wordsOf tt).map V.str)) := hl
      refine ⟨_, rfl, l, _, _, V.str (sortW 1), rfl, rfl, SqL.of hl, atI_nat (j := 0) rfl, ?_⟩
      refine ⟨_, rfl, rfl, _, rfl, iteFb (sF 1 0) (iteF ?_)⟩
      refine ⟨_, rfl, rfl, _, rfl, iteTb (sT 1) ⟨_, rfl, l, "deed", nn, wordsOf tt, rfl, hl, hg.nm (show 1 < 5 by decide), wordsOf_ne gts.lo, fun H1 s1 => ⟨_, rfl, iteT ?_⟩⟩⟩
      have hl1 := s1 _ _ hl
      exact ⟨_, rfl, l, _, _, V.str nn, rfl, rfl, SqL.of hl1, atI_nat (j := 1) rfl, _, rfl, l, 3, _, tt, rfl, hl1, rfl, gts, fun d H2 hd2 s2 htd => ⟨⟨1, nn, dotted ys, ww, tt⟩, d, rfl, rfl, hg, htd, fun a l' H' s3 ha hl' ra => q a l' H' (s1.trans (s2.trans s3)) ((s1.trans s2).free ha) ((s1.trans s2).free hl') ra⟩⟩
    · have hl : H l = some (.lst ([("draw" : Str), dotted ys, "as", nn].map V.str)) := hl
      refine ⟨_, rfl, l, _, _, V.str (sortW 2), rfl, rfl, SqL.of hl, atI_nat (j := 0) rfl, ?_⟩
      refine ⟨_, rfl, rfl, _, rfl, iteFb (sF 2 0) (iteF ?_)⟩
      refine ⟨_, rfl, rfl, _, rfl, iteFb (sF 2 1) (iteF ?_)⟩
      refine ⟨_, rfl, rfl, _, rfl, iteTb (sT 2) ⟨_, rfl, l, "draw", ys, nn, rfl, hl, ga, hg.nm (show 2 < 5 by decide), fun H1 s1 => ⟨_, rfl, iteT ?_⟩⟩⟩
      have hl1 := s1 _ _ hl
      exact ⟨_, rfl, l, _, _, V.str (dotted ys), rfl, rfl, SqL.of hl1, atI_nat (j := 1) rfl, _, rfl, l, _, _, V.str nn, rfl, rfl, SqL.of hl1, atI_nat (j := 3) rfl, fun x dx hx hdx hne => ⟨x, dx, ⟨2, nn, dotted ys, ww, tt⟩, rfl, rfl, upd_same, fun H' sb ra => ⟨rfl, q x x H' (s1.trans (fun b o e => sb b o (new_ins hx hdx b o e) (ne_of_none e hx))) (s1.free hx) (s1.free hx) (ra x)⟩⟩⟩
    · have hl : H l = some (.lst ([("late" : Str), dotted ys, "as", nn].map V.str)) := hl
      refine ⟨_, rfl, l, _, _, V.str (sortW 3), rfl, rfl, SqL.of hl, atI_nat (j := 0) rfl, ?_⟩
      refine ⟨_, rfl, rfl, _, rfl, iteFb (sF 3 0) (iteF ?_)⟩
      refine ⟨_, rfl, rfl, _, rfl, iteFb (sF 3 1) (iteF ?_)⟩
      refine ⟨_, rfl, rfl, _, rfl, iteFb (sF 3 2) (iteF ?_)⟩
      refine ⟨_, rfl, rfl, _, rfl, iteTb (sT 3) ⟨_, rfl, l, "late", ys, nn, rfl, hl, ga, hg.nm (show 3 < 5 by decide), fun H1 s1 => ⟨_, rfl, iteT ?_⟩⟩⟩
      have hl1 := s1 _ _ hl
      exact ⟨_, rfl, l, _, _, V.str (dotted ys), rfl, rfl, SqL.of hl1, atI_nat (j := 1) rfl, _, rfl, l, _, _, V.str nn, rfl, rfl, SqL.of hl1, atI_nat (j := 3) rfl, fun x dx hx hdx hne => ⟨x, dx, ⟨3, nn, dotted ys, ww, tt⟩, rfl, rfl, upd_same, fun H' sb ra => ⟨rfl, q x x H' (s1.trans (fun b o e => sb b o (new_ins hx hdx b o e) (ne_of_none e hx))) (s1.free hx) (s1.free hx) (ra x)⟩⟩⟩
    · have hl : H l = some (.lst ([("take" : Str), ww, "from", dotted ys, "as", nn].map V.str)) := hl
      refine ⟨_, rfl, l, _, _, V.str (sortW 4), rfl, rfl, SqL.of hl, atI_nat (j := 0) rfl, ?_⟩
      refine ⟨_, rfl, rfl, _, rfl, iteFb (sF 4 0) (iteF ?_)⟩
      refine ⟨_, rfl, rfl, _, rfl, iteFb (sF 4 1) (iteF ?_)⟩
      refine ⟨_, rfl, rfl, _, rfl, iteFb (sF 4 2) (iteF ?_)⟩
      refine ⟨_, rfl, rfl, _, rfl, iteFb (sF 4 3) (iteF ?_)⟩
      refine ⟨_, rfl, rfl, _, rfl, iteTb (sT 4) ⟨_, rfl, l, "take", ww, ys, nn, rfl, hl, gw, ga, hg.nm (show 4 < 5 by decide), fun H1 s1 => ⟨_, rfl, iteT ?_⟩⟩⟩
      have hl1 := s1 _ _ hl
      exact ⟨_, rfl, l, _, _, V.str ww, rfl, rfl, SqL.of hl1, atI_nat (j := 1) rfl, _, rfl, l, _, _, V.str (dotted ys), rfl, rfl, SqL.of hl1, atI_nat (j := 3) rfl, _, rfl, l, _, _, V.str nn, rfl, rfl, SqL.of hl1, atI_nat (j := 5) rfl, fun x dx hx hdx hne => ⟨x, dx, ⟨4, nn, dotted ys, ww, tt⟩, rfl, rfl, upd_same, fun H' sb ra => ⟨rfl, q x x H' (s1.trans (fun b o e => sb b o (new_ins hx hdx b o e) (ne_of_none e hx))) (s1.free hx) (s1.free hx) (ra x)⟩⟩⟩
    · have hl : H l = some (.lst ((("need" : Str) :: wordsOf tt).map V.str)) := hl
      refine ⟨_, rfl, l, _, _, V.str (sortW 5), rfl, rfl, SqL.of hl, atI_nat (j := 0) rfl, ?_⟩
      refine ⟨_, rfl, rfl, _, rfl, iteFb (sF 5 0) (iteF ?_)⟩
      refine ⟨_, rfl, rfl, _, rfl, iteFb (sF 5 1) (iteF ?_)⟩
      refine ⟨_, rfl, rfl, _, rfl, iteFb (sF 5 2) (iteF ?_)⟩
      refine ⟨_, rfl, rfl, _, rfl, iteFb (sF 5 3) (iteF ?_)⟩
      refine ⟨_, rfl, rfl, _, rfl, iteFb (sF 5 4) (iteF ?_)⟩
      refine ⟨_, rfl, rfl, _, rfl, iteTb (sT 5) ?_⟩
      exact ⟨_, rfl, l, 1, _, tt, rfl, hl, rfl, gts, fun d H2 hd2 s2 htd => fun x dx hx hdx hne => ⟨x, dx, ⟨5, nn, dotted ys, ww, tt⟩, d, rfl, rfl, upd_same, htd.same (new_ins hx hdx), h6, fun l' H' hl' sb ra => ⟨rfl, q x l' H' (s2.trans (fun b o e => sb b o (new_ins hx hdx b o e) (ne_of_none e hx))) (s2.free hx) (s2.free ((new_ins hx hdx).free hl')) ra⟩⟩⟩

theorem ok_row_at {C : Nat → Addr} (T : Tx K mg C) {f : Addr} {fd : FuncData} (F : Fun K "row_at" "row_at" s_row_at f fd) : FnOk P w K mg base CX0 8 f fd psPRowAt (spRA C) := by
  obtain ⟨f_row_of, fd_row_of, A_row_of⟩ := T.a_row_of
  have G_row_of : FnOk P w K mg base CX0 7 f_row_of fd_row_of psPRowOf (spRO C) := ok_row_of T A_row_of.F
  refine F.ok scPRowAt (fun vs H Q E h => ?_) (fun cdv A outer s H vs Q E hr h => ?_)
  · obtain ⟨r, i, rfl, _⟩ := h
    rfl
  · obtain ⟨r, i, rfl, hg, q⟩ := h
    have hr7 : Room 7 _ := hr
    refine ⟨_, QSs.h (qss_cons (qs_try (fun _ _ h => h) (qss_one (qs_set (i := 2) scPRowAt.nd rfl (Or.inl rfl) (pcall A_row_of G_row_of hr7 (pa_cons (pe_bm PySem.F.plainAttrs_str PySem.F.slot_str_split PySem.F.type_str_split mt_split (pv 0) (pa_cons pe_str pa_nil)) pa_nil)))))
      (qss_cons (qs_if (pt_cmpR op_isN (pv 2) pe_non (nomark _)) (qss_one qs_never) qss_nil)
      (qss_one (qs_ret (pv 2))))), ?_⟩
    refine ⟨_, rfl, rfl, _, _, rfl, rfl, blanklen0, Nat.le_trans (show (saidOf r).length + 2 ≤ 1002 by have := said_len hg; omega) (by decide), fun p hp => ?_⟩
    refine ⟨p, r, rfl, by rw [upd_same, said_split hg], hg, fun a l H' s' ha hl ra => ?_⟩
    refine ⟨_, rfl, rfl, _, rfl, iteFb (decide_eq_false (by intro z; cases z)) ?_⟩
    exact ⟨_, rfl, q a l H' ((Same.new hp).trans s') ((Same.new hp).free ha) ((Same.new hp).free hl) ra⟩

theorem ok_read_head {C : Nat → Addr} (T : Tx K mg C) {f : Addr} {fd : FuncData} (F : Fun K "read_head" "read_head" s_read_head f fd) : FnOk P w K mg base CX0 4 f fd psPReadHead spHead := by
  obtain ⟨f_is_address, fd_is_address, A_is_address⟩ := T.a_is_address
  have G_is_address : FnOk P w K mg base CX0 3 f_is_address fd_is_address psPIsAddress spIsA := ok_is_address T A_is_address.F
  refine F.ok scPReadHead (fun vs H Q E h => ?_) (fun cdv A outer s H vs Q E hr h => ?_)
  · obtain ⟨ys, rfl, _⟩ := h
    rfl
  · obtain ⟨ys, rfl, ga, q⟩ := h
    have hr3 : Room 3 _ := hr
    refine ⟨_, QSs.h (qss_cons (qs_set (i := 1) scPReadHead.nd rfl (Or.inl rfl) (pe_bm PySem.F.plainAttrs_str PySem.F.slot_str_split PySem.F.type_str_split mt_split (pv 0) (pa_cons pe_str pa_nil)))
      (qss_cons (qs_if (PW.pt (pw_or (pt_cmpR op_ne (pe_callB call_len_seq (by rfl) T.len PySem.boot_len (pa_cons (pv 1) pa_nil)) pe_int (nomark _)) (pw_or (pt_cmpR op_ne (pe_ix ix_list (pv 1) pe_int (fun _ _ => rfl)) pe_str (nomark _)) (pw_or1 (pt_not (pt_val (pcall A_is_address G_is_address hr3 (pa_cons (pe_ix ix_list (pv 1) pe_int (fun _ _ => rfl)) pa_nil)))))))) (qss_one qs_never) qss_nil)
      (qss_one (qs_ret (pe_ix ix_list (pv 1) pe_int (fun _ _ => rfl)))))), ?_⟩
    have hal := ga.len
    have len5 : (("part " : Str) ++ dotted ys).length + 2 ≤ 1000 := by rw [appLen, len_part]; omega
    refine ⟨_, rfl, rfl, _, _, rfl, rfl, blanklen0, Nat.le_trans len5 (by decide), fun p hp => ?_⟩
    rw [head_split ga]
    refine ⟨_, rfl, p, _, rfl, .inl (SqL.of upd_same), rfl, _, rfl, iteNe rfl ?_⟩
    refine ⟨_, rfl, p, _, _, V.str "part", rfl, rfl, SqL.of upd_same, atI_nat (j := 0) rfl, rfl, _, rfl, iteNe rfl ?_⟩
    refine ⟨_, rfl, p, _, _, V.str (dotted ys), rfl, rfl, SqL.of upd_same, atI_nat (j := 1) rfl, ys, rfl, ga, fun H1 s1 => ⟨_, rfl, iteF ?_⟩⟩
    exact ⟨_, rfl, p, _, _, V.str (dotted ys), rfl, rfl, SqL.of (s1 _ _ upd_same), atI_nat (j := 1) rfl, q H1 ((Same.new hp).trans s1)⟩


theorem vm_of {C : Addr} {m : Str} {f : Addr} {fd : FuncData} {q : Str} {st : Stmt} {ps : List Str} {k : Nat} {sp sp' : Sp} (A : MAt K m q st ps f fd) (M : Meth K C m f) (G : FnOk P w K mg base CX0 k f fd ps sp) (hk : k ≤ 3) (h : ∀ vs H Q E, sp' vs H Q E → sp vs H Q E) : VM P w K mg base 3 C m sp' :=
  ⟨f, fd, ps, M, (G.mono hk).imp h, A.b⟩
theorem rdB {C : Nat → Addr} (T : Tx K mg C) {H : Hp} {a l : Addr} {r : RowD} {Q : VK} (ra : RowAt C H a l r) (g : GoodR r) (q : Pur (.str r.nm) H Q) : MV P w K mg base 3 "binds" (.ref a) H Q := by
  obtain ⟨so, nn, aa, ww, tt⟩ := r
  have h5 : so ≤ 5 := g.so
  obtain ⟨dx, fs, ha, hf⟩ := id ra
  rcases six h5 with rfl | rfl | rfl | rfl | rfl | rfl
  · obtain ⟨f, fd, A, M⟩ := T.m_Let_binds
    exact ⟨a, C 0, dx, fs, spB C 0, rfl, ha, hf.nb, (T.fam.c 0 (by decide)).cl, vm_of A M (ok_m_Let_binds T A.F) (by decide) (fun _ _ _ _ h => h), a, l, _, rfl, rfl, ra, q⟩
  · obtain ⟨f, fd, A, M⟩ := T.m_Deed_binds
    exact ⟨a, C 1, dx, fs, spB C 1, rfl, ha, hf.nb, (T.fam.c 1 (by decide)).cl, vm_of A M (ok_m_Deed_binds T A.F) (by decide) (fun _ _ _ _ h => h), a, l, _, rfl, rfl, ra, q⟩
  · obtain ⟨f, fd, A, M⟩ := T.m_Draw_binds
    exact ⟨a, C 2, dx, fs, spB C 2, rfl, ha, hf.nb, (T.fam.c 2 (by decide)).cl, vm_of A M (ok_m_Draw_binds T A.F) (by decide) (fun _ _ _ _ h => h), a, l, _, rfl, rfl, ra, q⟩
  · obtain ⟨f, fd, A, M⟩ := T.m_Late_binds
    exact ⟨a, C 3, dx, fs, spB C 3, rfl, ha, hf.nb, (T.fam.c 3 (by decide)).cl, vm_of A M (ok_m_Late_binds T A.F) (by decide) (fun _ _ _ _ h => h), a, l, _, rfl, rfl, ra, q⟩
  · obtain ⟨f, fd, A, M⟩ := T.m_Take_binds
    exact ⟨a, C 4, dx, fs, spB C 4, rfl, ha, hf.nb, (T.fam.c 4 (by decide)).cl, vm_of A M (ok_m_Take_binds T A.F) (by decide) (fun _ _ _ _ h => h), a, l, _, rfl, rfl, ra, q⟩
  · obtain ⟨f, fd, A, M⟩ := T.m_Row_binds
    exact ⟨a, C 5, dx, fs, spRet0, rfl, ha, hf.nb, (T.fam.c 5 (by decide)).cl, vm_of A M.1 (ok_m_Row_binds T A.F) (by decide) (fun _ _ _ _ h => h), .ref a, rfl, by have e : nn = "" := g.no rfl; rw [← e]; exact q⟩
theorem rdA {C : Nat → Addr} (T : Tx K mg C) {H : Hp} {a l : Addr} {r : RowD} {Q : VK} (ra : RowAt C H a l r) (g : GoodR r) (q : ∀ b H', H b = none → Same H H' → H' b = some (.lst ((askedOf r).map V.str)) → Q (.ref b) H') : MV P w K mg base 3 "asked" (.ref a) H Q := by
  obtain ⟨so, nn, aa, ww, tt⟩ := r
  have h5 : so ≤ 5 := g.so
  obtain ⟨dx, fs, ha, hf⟩ := id ra
  rcases six h5 with rfl | rfl | rfl | rfl | rfl | rfl
  · obtain ⟨f, fd, A, M⟩ := T.m_Row_asked
    exact ⟨a, C 0, dx, fs, spAsk0, rfl, ha, hf.na, (T.fam.c 0 (by decide)).cl, vm_of A M.1 (ok_m_Row_asked T A.F) (by decide) (fun _ _ _ _ h => h), .ref a, rfl, fun b H' h1 h2 h3 => q b H' h1 h2 h3⟩
  · obtain ⟨f, fd, A, M⟩ := T.m_Row_asked
    exact ⟨a, C 1, dx, fs, spAsk0, rfl, ha, hf.na, (T.fam.c 1 (by decide)).cl, vm_of A M.2.1 (ok_m_Row_asked T A.F) (by decide) (fun _ _ _ _ h => h), .ref a, rfl, fun b H' h1 h2 h3 => q b H' h1 h2 h3⟩
  · obtain ⟨f, fd, A, M⟩ := T.m_Draw_asked
    exact ⟨a, C 2, dx, fs, spA C 2, rfl, ha, hf.na, (T.fam.c 2 (by decide)).cl, vm_of A M (ok_m_Draw_asked T A.F) (by decide) (fun _ _ _ _ h => h), a, l, _, rfl, rfl, ra, fun b H' h1 h2 h3 => q b H' h1 h2 h3⟩
  · obtain ⟨f, fd, A, M⟩ := T.m_Late_asked
    exact ⟨a, C 3, dx, fs, spA C 3, rfl, ha, hf.na, (T.fam.c 3 (by decide)).cl, vm_of A M (ok_m_Late_asked T A.F) (by decide) (fun _ _ _ _ h => h), a, l, _, rfl, rfl, ra, fun b H' h1 h2 h3 => q b H' h1 h2 h3⟩
  · obtain ⟨f, fd, A, M⟩ := T.m_Take_asked
    exact ⟨a, C 4, dx, fs, spA C 4, rfl, ha, hf.na, (T.fam.c 4 (by decide)).cl, vm_of A M (ok_m_Take_asked T A.F) (by decide) (fun _ _ _ _ h => h), a, l, _, rfl, rfl, ra, fun b H' h1 h2 h3 => q b H' h1 h2 h3⟩
  · obtain ⟨f, fd, A, M⟩ := T.m_Row_asked
    exact ⟨a, C 5, dx, fs, spAsk0, rfl, ha, hf.na, (T.fam.c 5 (by decide)).cl, vm_of A M.2.2.1 (ok_m_Row_asked T A.F) (by decide) (fun _ _ _ _ h => h), .ref a, rfl, fun b H' h1 h2 h3 => q b H' h1 h2 h3⟩
theorem rdS {C : Nat → Addr} (T : Tx K mg C) {H : Hp} {a l : Addr} {r : RowD} {Q : VK} (ra : RowAt C H a l r) (g : GoodR r) (q : Pur (.str (saidOf r)) H Q) : MV P w K mg base 3 "said" (.ref a) H Q := by
  obtain ⟨so, nn, aa, ww, tt⟩ := r
  have h5 : so ≤ 5 := g.so
  obtain ⟨dx, fs, ha, hf⟩ := id ra
  rcases six h5 with rfl | rfl | rfl | rfl | rfl | rfl
  · obtain ⟨f, fd, A, M⟩ := T.m_Let_said
    exact ⟨a, C 0, dx, fs, spS C 0, rfl, ha, hf.ns, (T.fam.c 0 (by decide)).cl, vm_of A M (ok_m_Let_said T A.F) (by decide) (fun _ _ _ _ h => h), a, l, _, rfl, rfl, ra, g, q⟩
  · obtain ⟨f, fd, A, M⟩ := T.m_Deed_said
    exact ⟨a, C 1, dx, fs, spS C 1, rfl, ha, hf.ns, (T.fam.c 1 (by decide)).cl, vm_of A M (ok_m_Deed_said T A.F) (by decide) (fun _ _ _ _ h => h), a, l, _, rfl, rfl, ra, g, q⟩
  · obtain ⟨f, fd, A, M⟩ := T.m_Draw_said
    exact ⟨a, C 2, dx, fs, spS C 2, rfl, ha, hf.ns, (T.fam.c 2 (by decide)).cl, vm_of A M (ok_m_Draw_said T A.F) (by decide) (fun _ _ _ _ h => h), a, l, _, rfl, rfl, ra, g, q⟩
  · obtain ⟨f, fd, A, M⟩ := T.m_Late_said
    exact ⟨a, C 3, dx, fs, spS C 3, rfl, ha, hf.ns, (T.fam.c 3 (by decide)).cl, vm_of A M (ok_m_Late_said T A.F) (by decide) (fun _ _ _ _ h => h), a, l, _, rfl, rfl, ra, g, q⟩
  · obtain ⟨f, fd, A, M⟩ := T.m_Take_said
    exact ⟨a, C 4, dx, fs, spS C 4, rfl, ha, hf.ns, (T.fam.c 4 (by decide)).cl, vm_of A M (ok_m_Take_said T A.F) (by decide) (fun _ _ _ _ h => h), a, l, _, rfl, rfl, ra, g, q⟩
  · obtain ⟨f, fd, A, M⟩ := T.m_Need_said
    exact ⟨a, C 5, dx, fs, spS C 5, rfl, ha, hf.ns, (T.fam.c 5 (by decide)).cl, vm_of A M (ok_m_Need_said T A.F) (by decide) (fun _ _ _ _ h => h), a, l, _, rfl, rfl, ra, g, q⟩
theorem ok_m_Part___init__ {C : Nat → Addr} (T : Tx K mg C) {f : Addr} {fd : FuncData} (F : Fun K "__init__" "Part.__init__" s_m_Part___init__ f fd) : FnOk P w K mg base CX0 1 f fd psPMPartInit (spPIni C) := by
  refine F.ok scPMPartInit (fun vs H Q E h => ?_) (fun cdv A outer s H vs Q E hr h => ?_)
  · obtain ⟨x, dx, ad, d, rs, rfl, _⟩ := h
    rfl
  · obtain ⟨x, dx, ad, d, rs, rfl, hx, hrs, h12, q⟩ := h
    refine ⟨_, QSs.h (qss_cons (qs_fld (pv 0) (pv 1))
      (qss_one (qs_fld (pv 0) (pe_callTy call_list_of (by rfl) T.t_list PyProof.Rows.boot_list (pa_cons (pv 2) pa_nil))))), ?_⟩
    obtain ⟨xs, hl, hxl, hxt⟩ := id hrs
    have hdx : d ≠ x := ne_of hl hx (by intro z; cases z)
    refine ⟨_, rfl, _, rfl, x, _, dx, _, rfl, hx, T.pt.cl.cl, T.pt.na, Nat.lt_of_lt_of_le (Nat.zero_lt_one) (by decide), _, rfl, d, _, rfl, .inl (SqL.of (by rw [upd_ne hdx]; exact hl)), fun l hlf => ⟨_, rfl, x, _, dx, _, rfl, (by rw [upd_ne (upd_none hlf).2.symm]; exact upd_same), T.pt.cl.cl, T.pt.nr, Nat.lt_of_lt_of_le (lenP Nat.zero_lt_one) (by decide), ?_⟩⟩
    obtain ⟨hl0, hlx⟩ := upd_none hlf
    refine q l _ hl0 (sb3 hl0) ⟨dx, _, upd_same, (lkN (by decide +kernel)).trans lkP, lkP, (lkN (by decide +kernel)).trans (lkN (by decide +kernel)), (lkN (by decide +kernel)).trans (lkN (by decide +kernel)), (lkN (by decide +kernel)).trans (lkN (by decide +kernel)), ?_⟩
    refine ⟨xs, by rw [upd_ne hlx]; exact upd_same, hxl, fun j r e => ?_⟩
    obtain ⟨a, t, e2, ra⟩ := hxt j r e
    exact ⟨a, t, e2, ra.but (h12.at e) hx (sb3 hl0)⟩

theorem ok_m_Part_bound {C : Nat → Addr} (T : Tx K mg C) {f : Addr} {fd : FuncData} (F : Fun K "bound" "Part.bound" s_m_Part_bound f fd) : FnOk P w K mg base CX0 4 f fd psPMPartBound (spBound C) := by
  refine F.ok scPMPartBound (fun vs H Q E h => ?_) (fun cdv A outer s H vs Q E hr h => ?_)
  · obtain ⟨p, ad, l, rs, rfl, _⟩ := h
    rfl
  · obtain ⟨p, ad, l, rs, rfl, hp, hg, q⟩ := h
    have hr3 : Room 3 _ := hr
    refine ⟨_, QSs.h (qss_cons (qs_comp (N := ["row"]) [none] (i := 1) scPMPartBound.nd rfl (Or.inl rfl) rfl (by kernel_rfl) (pi_list (pe_fld (pv 0) rfl)) (fun cl C fp s H => (pg_name (i := 0) (by decide +kernel : (["row"] : List Str).Nodup) rfl (Or.inl rfl))) (fun cl C fp s H => pf_nil) (fun cl C fp s H => (pe_methV (P := P) (w := w) (K := K) (mg := mg) (base := base) rfl rfl rfl rfl rfl hr3 (pv 0))))
      (qss_one (qs_ret (pe_comp (N := ["name"]) [none] rfl (by kernel_rfl) (pi_list (pv 1)) (fun cl C fp s H => (pg_name (i := 0) (by decide +kernel : (["name"] : List Str).Nodup) rfl (Or.inl rfl))) (fun cl C fp s H => (pf_one (pt_cmpR op_ne (pv 0) pe_str (nomark _)))) (fun cl C fp s H => (pv 0)))))), ?_⟩
    obtain ⟨dx, fs, ea, a1, a2, a3, a4, a5, hr0⟩ := id hp
    obtain ⟨xs, hl, hxl, hxt⟩ := id hr0
    refine ⟨_, rfl, rdF ea T.pt.cl.cl T.pt.nr a2 ?_⟩
    have hx12 : xs.length ≤ sizeLine := Nat.le_trans (show xs.length ≤ 12 by rw [hxl]; exact hg.hi) (by decide)
    refine ⟨l, rfl, ⟨xs, SqL.of hl⟩, ?_⟩
    refine comp_listI (fun i => (rs.map fun r => V.str r.nm).getD i .non) hx12 (SqL.of hl) (fun i x H' Q' hx sm k => ?_) (fun H' sm b hb => ?_)
    · have hi : i < rs.length := by rw [← hxl]; exact (List.getElem?_eq_some_iff.mp hx).1
      obtain ⟨a, t, e2, ra⟩ := hxt i rs[i] (List.getElem?_eq_getElem hi)
      obtain rfl : x = .ref a := by rw [hx] at e2; exact Option.some.inj e2
      refine ⟨_, rfl, rdB T (ra.same sm) (hg.at (List.getElem?_eq_getElem hi)) fun H'' s'' => ?_⟩
      have e : (rs.map fun r => V.str r.nm).getD i .non = V.str rs[i].nm := by simp [List.getD, hi]
      rw [← e]
      exact k H'' s''
    · have em : (List.range xs.length).map (fun i => (rs.map fun r => V.str r.nm).getD i .non) = rs.map fun r => V.str r.nm := by
        apply List.ext_getElem
        · simp [hxl]
        · intro i h1 h2
          have : i < rs.length := by simpa using h2
          simp [this]
      rw [em]
      refine ⟨_, rfl, b, rfl, ⟨_, SqL.of upd_same⟩, ?_⟩
      refine comp_listF isE (by rw [List.length_map, ← hxl]; exact hx12) (SqL.of upd_same) (fun x H2 Q2 hx s2 k => ?_) (fun x H2 Q2 hx s2 k => ?_) (fun H2 s2 c hc => ?_)
      · obtain ⟨r, _, rfl⟩ := List.mem_map.mp hx
        exact ⟨_, rfl, rfl, _, rfl, k H2 (Same.refl H2)⟩
      · exact ⟨_, rfl, k H2 (Same.refl H2)⟩
      · exact q c _ (sm.free ((Same.new hb).free (s2.free hc))) (sm.trans ((Same.new hb).trans (s2.put hc))) upd_same

theorem ok_m_Part_place_of {C : Nat → Addr} (T : Tx K mg C) {f : Addr} {fd : FuncData} (F : Fun K "place_of" "Part.place_of" s_m_Part_place_of f fd) : FnOk P w K mg base CX0 4 f fd psPMPartPlaceOf (spPlace C) := by
  refine F.ok scPMPartPlaceOf (fun vs H Q E h => ?_) (fun cdv A outer s H vs Q E hr h => ?_)
  · obtain ⟨p, ad, l, rs, z, rfl, _⟩ := h
    rfl
  · obtain ⟨p, ad, l, rs, z, rfl, hp, hg, q⟩ := h
    have hr3 : Room 3 _ := hr
    refine ⟨_, QSs.h (qss_cons (qs_if (pt_cmpR op_eq (pv 1) pe_str (nomark _)) (qss_one (qs_ret pe_non)) qss_nil)
      (qss_cons (qs_for PassesOwn.never rfl (pi_enum (K := K) rfl (by rfl) T.enumerate (pa_cons (pe_fld (pv 0) rfl) pa_nil)) (pg_tupK (K := K) (n := 2) rfl rfl (pgs_cons (pg_name (i := 2) scPMPartPlaceOf.nd rfl (Or.inl rfl)) (pgs_cons (pg_name (i := 3) scPMPartPlaceOf.nd rfl (Or.inl rfl)) pgs_nil)))
      (qss_one (qs_if (pt_cmpR op_eq (pe_methV (P := P) (w := w) (K := K) (mg := mg) (base := base) rfl rfl rfl rfl rfl hr3 (pv 3)) (pv 1) (nomark _)) (qss_one (qs_ret (pv 2))) qss_nil)))
      (qss_one (qs_ret pe_non)))), ?_⟩
    obtain ⟨dx, fs, ea, a1, a2, a3, a4, a5, hr0⟩ := id hp
    obtain ⟨xs, hl, hxl, hxt⟩ := id hr0
    refine ⟨_, rfl, rfl, _, rfl, ite2d (fun he => ?_) (fun he => ?_)⟩
    · have q' := q H (Same.refl H)
      unfold placeV at q'
      rw [if_pos (V.str.inj he)] at q'
      exact q'
    · have hz : ¬ z = "" := fun e => he (congrArg V.str e)
      refine ⟨_, rfl, rdF ea T.pt.cl.cl T.pt.nr a2 ⟨l, rfl, ⟨xs, SqL.of hl⟩, ?_⟩⟩
      refine for_enum (xs := xs) (fun i σ H2 => ∃ v1 v2, σ = [some (.ref p), some (.str z), v1, v2] ∧ Same H H2 ∧ ∀ (j : Nat) r, j < i → rs[j]? = some r → ¬ r.nm = z) ⟨none, none, rfl, Same.refl _, fun j r h => absurd h (Nat.not_lt_zero _)⟩ (fun i σ H2 hi hv => ?_) (fun i x p0 σ H2 hx hv hp0 => ?_) (fun σ H2 hv => ?_)
      · obtain ⟨v1, v2, rfl, sm, hb⟩ := hv
        exact sm.seq (SqL.of hl)
      · obtain ⟨v1, v2, rfl, sm, hb⟩ := hv
        have hi : i < rs.length := by rw [← hxl]; exact (List.getElem?_eq_some_iff.mp hx).1
        obtain ⟨a, t, e2, ra⟩ := hxt i rs[i] (List.getElem?_eq_getElem hi)
        obtain rfl : x = .ref a := by rw [hx] at e2; exact Option.some.inj e2
        refine ⟨p0, _, rfl, SqT.of upd_same, rfl, _, _, rfl, _, _, rfl, rfl, ?_⟩
        refine ⟨_, rfl, rdB T (ra.same (sm.put hp0)) (hg.at (List.getElem?_eq_getElem hi)) fun H3 s3 => ⟨_, rfl, rfl, _, rfl, ite2d (fun hy => ?_) (fun hn => ?_)⟩⟩
        · have q' := q H3 ((sm.put hp0).trans s3)
          rw [place_at (List.getElem?_eq_getElem hi) (V.str.inj hy) hz hb, show ((i : Nat) : Int) = 0 + (i : Int) from (Int.zero_add _).symm] at q'
          exact ⟨_, rfl, q'⟩
        · refine ⟨_, _, rfl, (sm.put hp0).trans s3, fun j r hj e => ?_⟩
          rcases Nat.lt_or_ge j i with k | k
          · exact hb j r k e
          · obtain rfl : j = i := by omega
            rw [List.getElem?_eq_getElem hi] at e
            cases e
            exact fun z => hn (congrArg V.str z)
      · obtain ⟨v1, v2, rfl, sm, hb⟩ := hv
        have q' := q H2 sm
        rw [place_no hz fun j r e => hb j r (by rw [hxl]; exact (List.getElem?_eq_some_iff.mp e).1) e] at q'
        exact q'

theorem ok_m_Part_text {C : Nat → Addr} (T : Tx K mg C) {f : Addr} {fd : FuncData} (F : Fun K "text" "Part.text" s_m_Part_text f fd) : FnOk P w K mg base CX0 4 f fd psPMPartText (spPText C) := by
  refine F.ok scPMPartText (fun vs H Q E h => ?_) (fun cdv A outer s H vs Q E hr h => ?_)
  · obtain ⟨p, ad, l, rs, rfl, _⟩ := h
    rfl
  · obtain ⟨p, ad, l, rs, rfl, hp, hg, h36, q⟩ := h
    have hr3 : Room 3 _ := hr
    refine ⟨_, QSs.h (qss_one (qs_ret (pe_bm PySem.F.plainAttrs_str PySem.F.slot_str_join PySem.F.type_str_join mt_join pe_str (pa_cons (pe_op op_cat (pe_lst (pa_cons (pe_op op_add_str pe_str (pe_fld (pv 0) rfl)) pa_nil)) (pe_comp (N := ["row"]) [none] rfl (by kernel_rfl) (pi_list (pe_fld (pv 0) rfl)) (fun cl C fp s H => (pg_name (i := 0) (by decide +kernel : (["row"] : List Str).Nodup) rfl (Or.inl rfl))) (fun cl C fp s H => pf_nil) (fun cl C fp s H => (pe_methV (P := P) (w := w) (K := K) (mg := mg) (base := base) rfl rfl rfl rfl rfl hr3 (pv 0))))) pa_nil)))), ?_⟩
    obtain ⟨dx, fs, ea, a1, a2, a3, a4, a5, hr0⟩ := id hp
    obtain ⟨xs, hl, hxl, hxt⟩ := id hr0
    have hx12 : xs.length ≤ sizeLine := Nat.le_trans (show xs.length ≤ 12 by rw [hxl]; exact hg.hi) (by decide)
    refine ⟨rfl, _, rfl, rdF ea T.pt.cl.cl T.pt.na a1 ⟨_, _, rfl, rfl, by rw [len_part]; exact Nat.le_trans (Nat.add_le_add_left h36 5) (by decide), by show 1 ≤ sizeLine; decide, fun b hb => ?_⟩⟩
    have sb : Same H (upd H b (.lst [V.str ("part " ++ ad)])) := Same.new hb
    refine ⟨_, rfl, rdF (sb _ _ ea) T.pt.cl.cl T.pt.nr a2 ⟨l, rfl, ⟨xs, SqL.of (sb _ _ hl)⟩, ?_⟩⟩
    refine comp_listI (fun i => (rs.map fun r => V.str (saidOf r)).getD i .non) hx12 (SqL.of (sb _ _ hl)) (fun i x H' Q' hx sm k => ?_) (fun H' sm c hc => ?_)
    · have hi : i < rs.length := by rw [← hxl]; exact (List.getElem?_eq_some_iff.mp hx).1
      obtain ⟨a, t, e2, ra⟩ := hxt i rs[i] (List.getElem?_eq_getElem hi)
      obtain rfl : x = .ref a := by rw [hx] at e2; exact Option.some.inj e2
      refine ⟨_, rfl, rdS T (ra.same (sb.trans sm)) (hg.at (List.getElem?_eq_getElem hi)) fun H'' s'' => ?_⟩
      have e : (rs.map fun r => V.str (saidOf r)).getD i .non = V.str (saidOf rs[i]) := by simp [List.getD, hi]
      rw [← e]
      exact k H'' s''
    · have em : (List.range xs.length).map (fun i => (rs.map fun r => V.str (saidOf r)).getD i .non) = rs.map fun r => V.str (saidOf r) := by
        apply List.ext_getElem
        · simp [hxl]
        · intro i h1 h2
          have : i < rs.length := by simpa using h2
          simp [this]
      rw [em]
      have hbc : b ≠ c := fun z => by rw [z] at sm; exact absurd (sm _ _ upd_same) (by rw [hc]; intro z; cases z)
      refine ⟨b, c, _, _, rfl, rfl, by rw [upd_ne hbc]; exact sm _ _ upd_same, upd_same, by rw [List.length_map]; exact Nat.le_trans (Nat.add_le_add_left hg.hi 1) (by decide), fun d hd => ?_⟩
      have sA : Same H (upd H' c (.lst (rs.map fun r => V.str (saidOf r)))) := (sb.trans sm).put hc
      refine ⟨_, d, ("part " ++ ad) :: rs.map saidOf, rfl, rfl, .inl (SqL.of (upd_same.trans (by rw [List.map_cons, List.map_map]; rfl))), ?_, ?_⟩
      · exact part_bound hg h36
      · exact q _ (sA.put hd)

theorem ok_read_part {C : Nat → Addr} (T : Tx K mg C) {f : Addr} {fd : FuncData} (F : Fun K "read_part" "read_part" s_read_part f fd) : FnOk P w K mg base CX0 9 f fd psPReadPart (spReadP C) := by
  obtain ⟨f_read_head, fd_read_head, A_read_head⟩ := T.a_read_head
  have G_read_head : FnOk P w K mg base CX0 4 f_read_head fd_read_head psPReadHead spHead := ok_read_head T A_read_head.F
  obtain ⟨f_row_at, fd_row_at, A_row_at⟩ := T.a_row_at
  have G_row_at : FnOk P w K mg base CX0 8 f_row_at fd_row_at psPRowAt (spRA C) := ok_row_at T A_row_at.F
  obtain ⟨f_bound, fd_bound, A_bound, M_bound⟩ := T.m_Part_bound
  have G_bound : FnOk P w K mg base CX0 4 f_bound fd_bound psPMPartBound (spBound C) := ok_m_Part_bound T A_bound.F
  obtain ⟨f_i_Part, fd_i_Part, A_i_Part, M_Part⟩ := T.i_Part
  have G_i_Part : FnOk P w K mg base CX0 1 f_i_Part fd_i_Part psPMPartInit (spPIni C) := ok_m_Part___init__ T A_i_Part.F
  refine F.ok scPReadPart (fun vs H Q E h => ?_) (fun cdv A outer s H vs Q E hr h => ?_)
  · obtain ⟨ys, rs, rfl, _⟩ := h
    rfl
  · obtain ⟨ys, rs, rfl, ga, hg, hap, q⟩ := h
    have hr2 : Room 2 _ := hr.mono (by decide)
    have hr3 : Room 3 _ := hr.mono (by decide)
    have hr4 : Room 4 _ := hr.mono (by decide)
    have hr8 : Room 8 _ := hr
    refine ⟨_, QSs.h (qss_cons (qs_if (pt_not (pt_val (pe_callB call_inst (by rfl) T.inst PyProof.Rows.boot_isinstance (pa_cons (pv 0) (pa_cons (pe_bltn (v := .ty "str") (by rfl) T.t_str PyProof.Rows.boot_str rfl) pa_nil))))) (qss_one qs_never) qss_nil)
      (qss_cons (qs_set (i := 1) scPReadPart.nd rfl (Or.inl rfl) (pe_bm PySem.F.plainAttrs_str PySem.F.slot_str_split PySem.F.type_str_split mt_split (pv 0) (pa_cons pe_str pa_nil)))
      (qss_cons (qs_set (i := 2) scPReadPart.nd rfl (Or.inl rfl) (pcall A_read_head G_read_head hr4 (pa_cons (pe_ix ix_list (pv 1) pe_int (fun _ _ => rfl)) pa_nil)))
      (qss_cons (qs_set (i := 3) scPReadPart.nd rfl (Or.inl rfl) (pe_lst pa_nil))
      (qss_cons (qs_for PassesOwn.never rfl (pi_enum1 (K := K) rfl (by rfl) T.enumerate (pa_cons (pe_slice sl_list (pv 1) (po_some pe_int) po_none) pa_nil)) (pg_tupK (K := K) (n := 2) rfl rfl (pgs_cons (pg_name (i := 4) scPReadPart.nd rfl (Or.inl rfl)) (pgs_cons (pg_name (i := 5) scPReadPart.nd rfl (Or.inl rfl)) pgs_nil)))
      (qss_cons (qs_set (i := 6) scPReadPart.nd rfl (Or.inl rfl) (pcall A_row_at G_row_at hr8 (pa_cons (pv 5) (pa_cons (pv 4) pa_nil))))
      (qss_cons (qs_if (pt_cmpR op_gt (pv 4) (pgl_int T.g_MOST_ROWS) (nomark _)) (qss_one qs_never) qss_nil)
      (qss_cons (qs_if (pt_cmpR op_in_seq (pe_methV (P := P) (w := w) (K := K) (mg := mg) (base := base) rfl rfl rfl rfl rfl hr3 (pv 6)) (pe_meth0 (rmake M_Part A_i_Part.b G_i_Part hr2 T.c_Part (pa_cons (pv 2) (pa_cons (pv 3) pa_nil))) T.pt.cl.cl M_bound G_bound hr4 A_bound.b .nil pass0) (by rfl)) (qss_one qs_never) qss_nil)
      (qss_one (qs_expr (pe_bm PySem.F.plainAttrs_list PySem.F.slot_list_append PySem.F.type_list_append mt_append (pv 3) (pa_cons (pv 6) pa_nil))))))))
      (qss_one (qs_ret (rmake M_Part A_i_Part.b G_i_Part hr2 T.c_Part (pa_cons (pv 2) (pa_cons (pv 3) pa_nil)))))))))), ?_⟩
    refine ⟨_, rfl, _, _, _, _, rfl, .str _, kit_same, _, rfl, iteF ?_⟩
    refine ⟨_, rfl, rfl, _, _, rfl, rfl, nl_len0, text_le hg ga.len, fun p hp => ?_⟩
    rw [ptext_split hg ga]
    have h0 : Same H (upd H p (.lst ((("part " ++ dotted ys) :: rs.map saidOf).map V.str))) := Same.new hp
    refine ⟨_, rfl, p, _, _, V.str ("part " ++ dotted ys), rfl, rfl, SqL.of upd_same, atI_nat (j := 0) rfl, ys, rfl, ga, fun H1 s1 => ?_⟩
    have hp1 := s1 _ _ (upd_same (H := H) (a := p))
    refine ⟨by show 0 ≤ sizeLine; decide, fun b hb => ?_⟩
    have s2 : Same H1 (upd H1 b (.lst [])) := Same.new hb
    refine ⟨_, rfl, _, rfl, p, _, rfl, SqL.of (s2 _ _ hp1), fun c hc => ?_⟩
    have ec : cutV ((("part " ++ dotted ys) :: rs.map saidOf).map V.str) (some 1) none = (rs.map saidOf).map V.str := (cut_from _ 1).trans rfl
    rw [ec]
    have s3 : Same (upd H1 b (.lst [])) (upd (upd H1 b (.lst [])) c (.lst ((rs.map saidOf).map V.str))) := Same.new hc
    have hbc : b ≠ c := fun z => by rw [z, upd_same] at hc; cases hc
    generalize hH3 : upd (upd H1 b (.lst [])) c (.lst ((rs.map saidOf).map V.str)) = H3 at s3
    have hb3 : H3 b = some (.lst []) := s3 _ _ upd_same
    have hc3 : H3 c = some (.lst ((rs.map saidOf).map V.str)) := by rw [← hH3]; exact upd_same
    have sH : Same H H3 := h0.trans (s1.trans (s2.trans s3))
    have hb0 : H b = none := (h0.trans s1).free hb
    refine ⟨c, rfl, ⟨_, SqL.of hc3⟩, ?_⟩
    refine for_enum (xs := (rs.map saidOf).map V.str) (fun i σ H2 => ∃ v4 v5 v6 xs, σ = [some (.str (partText (dotted ys) rs)), some (.ref p), some (.str (dotted ys)), some (.ref b), v4, v5, v6] ∧ SameBut b H3 H2 ∧ H2 b = some (.lst xs) ∧ xs.length = i ∧ ∀ (j : Nat) r, j < i → rs[j]? = some r → ∃ a t, xs[j]? = some (.ref a) ∧ RowAt C H2 a t r ∧ t ≠ b)
      ⟨none, none, none, [], rfl, fun _ _ e _ => e, hb3, rfl, fun j r h => absurd h (Nat.not_lt_zero _)⟩ (fun i σ H2 hi hv => ?_) (fun i x p0 σ H2 hx hv hp0 => ?_) (fun σ H2 hv => ?_)
    · obtain ⟨v4, v5, v6, xs, rfl, sb, hb2, hxl, hxt⟩ := hv
      exact SqL.of (sb _ _ hc3 hbc.symm)
    · obtain ⟨v4, v5, v6, xs, rfl, sb, hb2, hxl, hxt⟩ := hv
      have hi : i < rs.length := by have := (List.getElem?_eq_some_iff.mp hx).1; simpa using this
      have er : rs[i]? = some rs[i] := List.getElem?_eq_getElem hi
      obtain rfl : x = .str (saidOf rs[i]) := by rw [List.getElem?_map, List.getElem?_map, er] at hx; exact (Option.some.inj hx).symm
      have i12 : i < 12 := Nat.lt_of_lt_of_le hi hg.hi
      have gr := hg.at er
      have s4 : Same H2 (upd H2 p0 (.tup [.int (1 + (i : Int)), .str (saidOf rs[i])])) := Same.new hp0
      refine ⟨p0, _, rfl, SqT.of upd_same, rfl, _, _, rfl, _, _, rfl, rfl, ?_⟩
      refine ⟨_, rfl, _, rfl, rs[i], 1 + (i : Int), rfl, gr, fun a t H4 s5 ha ht ra => ?_⟩
      have s24 : Same H2 H4 := s4.trans s5
      refine ⟨_, rfl, _, _, rfl, rfl, _, rfl, iteFb (decide_eq_false (by omega)) ?_⟩
      refine ⟨_, rfl, rdB T ra gr fun H5 s6 => ?_⟩
      have s25 : Same H2 H5 := s24.trans s6
      refine ⟨_, rfl, _, rfl, fun x dx hx hdx hne => ?_⟩
      have sn : Same H5 (upd (upd H5 dx (.own x)) x (.ins (C 7) dx [])) := new_ins hx hdx
      have tl : (rs.take i).length = i := List.length_take_of_le (Nat.le_of_lt hi)
      refine ⟨x, dx, dotted ys, b, rs.take i, rfl, upd_same, ⟨xs, (s25.trans sn) _ _ hb2, by rw [hxl, tl], fun j r e => ?_⟩, hg.take i, fun l2 H6 hl2 sb6 pa => ⟨rfl, ?_⟩⟩
      · obtain ⟨hj, e2⟩ := take_at e
        obtain ⟨a2, t2, q1, q2, _⟩ := hxt j r hj e2
        exact ⟨a2, t2, q1, q2.same (s25.trans sn)⟩
      · have s56 : Same H5 H6 := fun bb o e => sb6 bb o (sn bb o e) (ne_of_none e hx)
        obtain ⟨dy, fs, ep, _, _, n1, _⟩ := id pa
        refine ⟨x, dy, fs, rfl, ep, n1, x, dotted ys, l2, rs.take i, rfl, pa, hg.take i, fun c2 H7 hc2 s7 hl7 => ?_⟩
        have s27 : Same H2 H7 := s25.trans (s56.trans s7)
        refine ⟨c2, _, rfl, .inl (SqL.of hl7), rfl, namesV_flat _, _, rfl, iteFb (not_named hap er) ?_⟩
        have hb7 := s27 _ _ hb2
        refine ⟨_, rfl, .inl ⟨rfl, _, SqL.of hb7⟩, _, rfl, b, xs, .ref a, rfl, rfl, hb7, by rw [hxl]; exact Nat.lt_of_lt_of_le i12 (by decide), ?_⟩
        have s47 : Same H4 H7 := s6.trans (s56.trans s7)
        refine ⟨_, _, _, xs ++ [.ref a], rfl, fun bb o e hbb => by rw [upd_ne hbb]; exact s27 _ _ (sb bb o e hbb), upd_same, by rw [List.length_append, hxl]; rfl, fun j r hj e => ?_⟩
        rcases Nat.lt_or_ge j i with k | k
        · obtain ⟨a2, t2, q1, q2, q3⟩ := hxt j r k e
          exact ⟨a2, t2, by rw [List.getElem?_append_left (by omega)]; exact q1, (q2.same s27).upd hb7 q3, q3⟩
        · obtain rfl : j = i := by omega
          rw [er] at e
          cases e
          have htb : t ≠ b := fun z => by rw [z, s4 _ _ hb2] at ht; cases ht
          exact ⟨a, t, by rw [List.getElem?_append_right (by omega), hxl, Nat.sub_self]; rfl, (ra.same s47).upd hb7 htb, htb⟩
    · obtain ⟨v4, v5, v6, xs, rfl, sb, hb2, hxl, hxt⟩ := hv
      have hxl : xs.length = rs.length := by rw [hxl]; simp
      have sH2 : Same H H2 := fun bb o e => sb bb o (sH bb o e) (ne_of_none e hb0)
      refine ⟨_, rfl, _, rfl, fun x dx hx hdx hne => ?_⟩
      have sn : Same H2 (upd (upd H2 dx (.own x)) x (.ins (C 7) dx [])) := new_ins hx hdx
      refine ⟨x, dx, dotted ys, b, rs, rfl, upd_same, ⟨xs, sn _ _ hb2, hxl, fun j r e => ?_⟩, hg, fun l2 H6 hl2 sb6 pa => ⟨rfl, ?_⟩⟩
      · obtain ⟨a2, t2, q1, q2, _⟩ := hxt j r (by have := (List.getElem?_eq_some_iff.mp e).1; simpa using this) e
        exact ⟨a2, t2, q1, q2.same sn⟩
      · have s26 : Same H2 H6 := fun bb o e => sb6 bb o (sn bb o e) (ne_of_none e hx)
        exact q x l2 H6 (sH2.trans s26) (sH2.free hx) ((sH2.trans sn).free hl2) pa

theorem ok_law_names {C : Nat → Addr} (T : Tx K mg C) {f : Addr} {fd : FuncData} (F : Fun K "_law_names" "_law_names" s_law_names f fd) : FnOk P w K mg base CX0 2 f fd psNames spNames := by
  obtain ⟨f_law_pick, fd_law_pick, A_law_pick⟩ := T.a_law_pick
  have G_law_pick : FnOk P w K mg base CX0 1 f_law_pick fd_law_pick psPick spPick := ok_pick A_law_pick.F
  refine F.ok scNames (fun vs H Q E h => ?_) (fun cdv A outer s H vs Q E hr h => ?_)
  · obtain ⟨c, rfl, _⟩ := h
    rfl
  · obtain ⟨c, rfl, q⟩ := h
    have hr1 : Room 1 _ := hr
    refine ⟨_, QSs.h (qss_cons (qs_set (i := 2) scNames.nd rfl (Or.inr rfl) pe_str)
      (qss_cons (qs_set (i := 3) scNames.nd rfl (Or.inl rfl) (pe_op op_add pe_int (pcall A_law_pick G_law_pick hr1 (pa_cons (pv 0) (pa_cons pe_int (pa_cons pe_int pa_nil))))))
      (qss_cons (qs_set (i := 4) scNames.nd rfl (Or.inl rfl) (pcall A_law_pick G_law_pick hr1 (pa_cons (pv 0) (pa_cons pe_int (pa_cons (pv 3) pa_nil)))))
      (qss_cons (qs_set (i := 5) scNames.nd rfl (Or.inl rfl) (pe_op op_mod (pe_op op_add (pe_op op_add (pv 4) pe_int) (pcall A_law_pick G_law_pick hr1 (pa_cons (pv 0) (pa_cons pe_int (pa_cons (pe_op op_sub (pv 3) pe_int) pa_nil))))) (pv 3)))
      (qss_cons (qs_set (i := 6) scNames.nd rfl (Or.inr rfl) (pe_comp (N := ["_law_j", "_law_cell_here"]) [none, some 0] rfl (by kernel_rfl) (pi_range1 (by rfl) T.range (pa_cons pe_int pa_nil)) (fun cl C fp s H => (pg_name (i := 0) (by decide +kernel : (["_law_j", "_law_cell_here"] : List Str).Nodup) rfl (Or.inl rfl))) (fun cl C fp s H => pf_nil) (fun cl C fp s H => (pcall A_law_pick G_law_pick hr1 (pa_cons (pv 1) (pa_cons (pe_op op_add pe_int (pv 0)) (pa_cons pe_int pa_nil)))))))
      (qss_cons (qs_set (i := 7) scNames.nd rfl (Or.inl rfl) (qe_lst (qa_cons pe_str (qa_cons pe_str (qa_cons pe_str (qa_cons pe_str (qa_cons pe_str (qa_cons pe_str (qa_cons pe_str (qa_cons pe_str (qa_cons pe_str (qa_cons pe_str qa_nil))))))))))))
      (qss_cons (qs_set (i := 8) scNames.nd rfl (Or.inl rfl) (pe_ix ix_list (pe_lst (pa_cons (pv 7) (pa_cons (pe_comp (N := ["_law_j", "_law_letters", "_law_base"]) [none, some 2, some 6] rfl (by kernel_rfl) (pi_range1 (by rfl) T.range (pa_cons pe_int pa_nil)) (fun cl C fp s H => (pg_name (i := 0) (by decide +kernel : (["_law_j", "_law_letters", "_law_base"] : List Str).Nodup) rfl (Or.inl rfl))) (fun cl C fp s H => pf_nil) (fun cl C fp s H => (pe_bmK (K := K) rfl PySem.F.plainAttrs_str PySem.F.slot_str_join PySem.F.type_str_join (mt_joinK rfl) pe_str (pa_cons (pe_comp (N := ["_law_k", "_law_letters"]) [none, some 1] rfl (by kernel_rfl) (pi_listK (K := K) rfl (pe_slice (sl_listK (K := K) rfl) (pv 2) po_none (po_some (pe_op op_add (pv 0) pe_int)))) (fun cl C fp s H => (pg_name (i := 0) (by decide +kernel : (["_law_k", "_law_letters"] : List Str).Nodup) rfl (Or.inl rfl))) (fun cl C fp s H => pf_nil) (fun cl C fp s H => (pe_ix ix_str (pv 1) (pv 0) (fun _ _ => rfl)))) pa_nil)))) (pa_cons (pe_lst pa_nil) pa_nil)))) (pcall A_law_pick G_law_pick hr1 (pa_cons (pv 0) (pa_cons pe_int (pa_cons pe_int pa_nil)))) (fun _ _ => rfl)))
      (qss_cons (qs_for PassesOwn.never rfl (pi_range1 (by rfl) T.range (pa_cons (pv 1) pa_nil)) (pg_name (i := 9) scNames.nd rfl (Or.inl rfl))
      (qss_cons (qs_set (i := 10) scNames.nd rfl (Or.inl rfl) (pe_slice sl_list (pv 6) po_none (po_some (pv 3))))
      (qss_cons (qs_asg (pe_op op_mod (pe_op op_add (pe_ix ix_list (pv 6) (pv 4) (fun _ _ => rfl)) (pv 9)) pe_int) (pg_sub (pv 10) (pv 4) set_list))
      (qss_cons (qs_asg (pe_op op_mod (pe_op op_add (pe_ix ix_list (pv 6) (pv 5) (fun _ _ => rfl)) (pe_op op_fdiv (pv 9) pe_int)) pe_int) (pg_sub (pv 10) (pv 5) set_list))
      (qss_cons (qs_set (i := 11) scNames.nd rfl (Or.inl rfl) (pe_bm PySem.F.plainAttrs_str PySem.F.slot_str_join PySem.F.type_str_join mt_join pe_str (pa_cons (pe_comp (N := ["_law_k", "_law_letters"]) [none, some 2] rfl (by kernel_rfl) (pi_list (pv 10)) (fun cl C fp s H => (pg_name (i := 0) (by decide +kernel : (["_law_k", "_law_letters"] : List Str).Nodup) rfl (Or.inl rfl))) (fun cl C fp s H => pf_nil) (fun cl C fp s H => (pe_ix ix_str (pv 1) (pv 0) (fun _ _ => rfl)))) pa_nil)))
      (qss_one (qs_if (pt_cmpR op_notIn_seq (pv 11) (pv 8) (by rfl)) (qss_one (qs_expr (pe_bm PySem.F.plainAttrs_list PySem.F.slot_list_append PySem.F.type_list_append mt_append (pv 8) (pa_cons (pv 11) pa_nil)))) qss_nil)))))))
      (qss_one (qs_ret (pe_slice sl_list (pv 8) po_none (po_some (pv 1))))))))))))), ?_⟩
    have z1 := pick_ge c 0 (m := 7) (by decide)
    have z2 := pick_lt c 0 (m := 7) (by decide)
    refine ⟨_, rfl, c, 0, 7, rfl, by decide, by decide, by decide, fun H1 s1 => ⟨_, _, rfl, rfl, ?_⟩⟩
    generalize pick c 0 7 = sz at z1 z2
    have o1 := pick_ge c 1 (m := 2 + sz) (by omega)
    have o2 := pick_lt c 1 (m := 2 + sz) (by omega)
    refine ⟨_, rfl, _, rfl, c, 1, 2 + sz, rfl, by decide, by decide, by omega, fun H2 s2 => ?_⟩
    generalize pick c 1 (2 + sz) = one at o1 o2
    have t1 := pick_ge c 2 (m := 2 + sz - 1) (by omega)
    have t2 := pick_lt c 2 (m := 2 + sz - 1) (by omega)
    refine ⟨_, rfl, _, _, rfl, rfl, _, rfl, _, rfl, _, _, rfl, rfl, c, 2, 2 + sz - 1, rfl, by decide, by decide, by omega, fun H3 s3 => ⟨_, _, rfl, rfl, _, rfl, _, _, rfl, rfl, by show (0 : Int) < 2 + sz; omega, ?_⟩⟩
    obtain ⟨w0, w1, wne⟩ := two_ne (m := 2 + sz) (by omega) o1 o2 t1 t2
    obtain ⟨two, htwo⟩ : ∃ two, two = (one + 1 + pick c 2 (2 + sz - 1)) % (2 + sz) := ⟨_, rfl⟩
    rw [← htwo] at w0 w1 wne
    refine ⟨_, rfl, by decide, by decide, comp_rangeP (fun i v H' => ∃ b : Int, v = V.int b ∧ 0 ≤ b ∧ b < 26) (fun i v H' H'' h _ => h) (by show 8 ≤ sizeLine; decide) (fun i H' Q' hi sm k' => ?_) (fun xs H4 s4 hl hx B hB => ?_)⟩
    · have hi' : i < 8 := hi
      exact ⟨_, rfl, _, rfl, _, _, rfl, rfl, c, 3 + (0 + (i : Int)), 26, rfl, by omega, by omega, by decide, fun H5 s5 => k' _ H5 s5 ⟨_, rfl, pick_ge c _ (by decide), pick_lt c _ (by decide)⟩⟩
    obtain ⟨bs, hbl, rfl, hbr⟩ := ints_of hx
    have hb8 : bs.length = 8 := by rw [List.length_map] at hl; exact hl
    have s03 : Same H H4 := s1.trans (s2.trans (s3.trans s4))
    have hB0 : H B = none := s03.free hB
    have s04 : Same H (upd H4 B (.lst (bs.map V.int))) := s03.put hB
    have hB4 : (upd H4 B (.lst (bs.map V.int))) B = some (.lst (bs.map V.int)) := upd_same
    generalize upd H4 B (.lst (bs.map V.int)) = H5 at s04 hB4
    refine ⟨by show 10 ≤ sizeLine; decide, fun O hO => ?_⟩
    have s05 : Same H5 (upd H5 O (.lst [V.str "let", V.str "be", V.str "as", V.str "draw", V.str "late", V.str "take", V.str "from", V.str "need", V.str "deed", V.str "part"])) := Same.new hO
    have hO6 : (upd H5 O (.lst [V.str "let", V.str "be", V.str "as", V.str "draw", V.str "late", V.str "take", V.str "from", V.str "need", V.str "deed", V.str "part"])) O = some (.lst (oddW.map V.str)) := upd_same
    generalize upd H5 O (.lst [V.str "let", V.str "be", V.str "as", V.str "draw", V.str "late", V.str "take", V.str "from", V.str "need", V.str "deed", V.str "part"]) = H6 at s05 hO6
    have hB6 := s05 _ _ hB4
    have hOB : O ≠ B := (ne_of_none hB4 hO).symm
    refine ⟨_, rfl, _, rfl, by decide, by decide, comp_rangeP (fun i v H' => v = V.str (wdOf (bs.take (i + 1)))) (fun i v H' H'' h _ => h) (by show 8 ≤ sizeLine; decide) (fun i H' Q' hi sm k' => ?_) (fun xs H7 s7 hl7 hx7 PR hPR => ?_)⟩
    · have hi' : i < 8 := hi
      have ec : cutV (bs.map V.int) none (some (0 + (i : Int) + 1)) = (bs.take (i + 1)).map V.int := by
        rw [cut_int (by omega), show (0 + (i : Int) + 1).toNat = i + 1 from by omega]
      refine ⟨rfl, _, rfl, _, rfl, _, _, rfl, rfl, _, rfl, B, _, rfl, SqL.of (sm _ _ hB6), fun w hw => ⟨w, rfl, ⟨_, SqL.of upd_same⟩, ?_⟩⟩
      have h8 : (bs.take (i + 1)).length ≤ 8 := by rw [List.length_take]; omega
      refine comp_word (ks := bs.take (i + 1)) h8 (hbr.take _) (SqL.of (upd_same.trans (by rw [ec]))) (fun b H' Q h0 h1 s k => ⟨_, rfl, _, rfl, letters, _, _, rfl, rfl, by decide +kernel, lat h0 h1, k⟩) (fun H8 s8 d hd => ?_)
      exact ⟨_, d, _, rfl, rfl, .inl (SqL.of upd_same), word_bound h8, k' _ _ (((Same.new hw).trans s8).put hd) (congrArg V.str (wd_join _))⟩
    obtain rfl : xs = (prefN bs).map V.str := (vals_of (fun i => V.str (wdOf (bs.take (i + 1)))) hl7 hx7).trans (by unfold prefN; rw [List.map_map]; rfl)
    have s07 : Same H6 (upd H7 PR (.lst ((prefN bs).map V.str))) := s7.put hPR
    have hP8 : (upd H7 PR (.lst ((prefN bs).map V.str))) PR = some (.lst ((prefN bs).map V.str)) := upd_same
    have hPB : PR ≠ B := (ne_of_none (s7 _ _ hB6) hPR).symm
    have hP0 : H PR = none := (s04.trans (s05.trans s7)).free hPR
    generalize upd H7 PR (.lst ((prefN bs).map V.str)) = H8 at s07 hP8
    refine ⟨by show 0 ≤ sizeLine; decide, fun Em hEm => ⟨by show 3 ≤ sizeLine; decide, fun W hW => ?_⟩⟩
    have hEB : Em ≠ B := (ne_of_none (s07 _ _ hB6) hEm).symm
    have hE0 : H Em = none := (s04.trans (s05.trans s07)).free hEm
    have s8 : Same H8 (upd H8 Em (.lst [])) := Same.new hEm
    have hE9 : (upd H8 Em (.lst [])) Em = some (.lst ([].map V.str)) := upd_same
    generalize upd H8 Em (.lst []) = H9 at s8 hE9 hW
    have s9 : Same H9 (upd H9 W (.lst [V.ref O, V.ref PR, V.ref Em])) := Same.new hW
    have hW10 : (upd H9 W (.lst [V.ref O, V.ref PR, V.ref Em])) W = some (.lst [V.ref O, V.ref PR, V.ref Em]) := upd_same
    generalize upd H9 W (.lst [V.ref O, V.ref PR, V.ref Em]) = H10 at s9 hW10
    have p1 := pick_ge c 11 (m := 3) (by decide)
    have p2 := pick_lt c 11 (m := 3) (by decide)
    refine ⟨_, rfl, c, 11, 3, rfl, by decide, by decide, by decide, fun H11 s11 => ?_⟩
    have hcase : ∃ (nl : Addr) (zs : List Str), atI [V.ref O, V.ref PR, V.ref Em] (pick c 11 3) = some (.ref nl) ∧ H11 nl = some (.lst (zs.map V.str)) ∧ zs.Nodup ∧ (∀ z ∈ zs, IsNm z) ∧ zs.length ≤ 10 ∧ nl ≠ B ∧ H nl = none := by
      generalize pick c 11 3 = k at p1 p2
      rcases (by omega : k = 0 ∨ k = 1 ∨ k = 2) with rfl | rfl | rfl
      · exact ⟨O, oddW, atI_nat (j := 0) rfl, s11 _ _ (s9 _ _ (s8 _ _ (s07 _ _ hO6))), odd_nd, odd_nm, by decide, hOB, s04.free hO⟩
      · exact ⟨PR, prefN bs, atI_nat (j := 1) rfl, s11 _ _ (s9 _ _ (s8 _ _ hP8)), pref_nd hb8, pref_nm hbr hb8, by unfold prefN; rw [List.length_map, List.length_range]; decide, hPB, hP0⟩
      · exact ⟨Em, [], atI_nat (j := 2) rfl, s11 _ _ (s9 _ _ hE9), List.nodup_nil, (fun z hz => by cases hz), by decide, hEB, hE0⟩
    obtain ⟨nl, zs0, hat, hn11, nd0, nm0, len0, hnB, hn0⟩ := hcase
    have hB11 := s11 _ _ (s9 _ _ (s8 _ _ (s07 _ _ hB6)))
    have s0 : Same H H11 := s04.trans (s05.trans (s07.trans (s8.trans (s9.trans s11))))
    refine ⟨W, _, _, _, rfl, rfl, SqL.of (s11 _ _ hW10), hat, ?_⟩
    refine ⟨_, rfl, _, rfl, by decide, by decide, ?_⟩
    have hm8 : (2 + sz).toNat ≤ bs.length := by omega
    have hmi : ((2 + sz).toNat : Int) = 2 + sz := by omega
    refine for_range (fun i σ H2 => ∃ v9 v10 v11, ∃ zs : List Str, σ = [some (.int c), some (.int 12), some (.str "abcdefghijklmnopqrstuvwxyz"), some (.int (2 + sz)), some (.int one), some (.int two), some (.ref B), some (.ref O), some (.ref nl), v9, v10, v11] ∧ Same H H2 ∧ H2 B = some (.lst (bs.map V.int)) ∧ H2 nl = some (.lst (zs.map V.str)) ∧ zs.Nodup ∧ (∀ z ∈ zs, IsNm z) ∧ zs.length ≤ 10 + i ∧ ∀ j : Nat, j < i → wdOf (candW bs (2 + sz).toNat one.toNat two.toNat (0 + (j : Int))) ∈ zs)
      ⟨none, none, none, zs0, (by rw [htwo]; rfl), s0, hB11, hn11, nd0, nm0, len0, fun j hj => absurd hj (Nat.not_lt_zero _)⟩ ?_ ?_
    · rintro i σ H2 hi ⟨v9, v10, v11, zs, rfl, sm, hB2, hn2, nd, hnm, hlen, hc⟩
      have hi12 : i < 12 := hi
      have ec : cutV (bs.map V.int) none (some (2 + sz)) = (bs.take (2 + sz).toNat).map V.int := cut_int (by omega)
      refine ⟨_, rfl, _, rfl, _, rfl, B, _, rfl, SqL.of hB2, fun w hw => ?_⟩
      have sw : Same H2 (upd H2 w (.lst (cutV (bs.map V.int) none (some (2 + sz))))) := Same.new hw
      have hw3 : (upd H2 w (.lst (cutV (bs.map V.int) none (some (2 + sz))))) w = some (.lst ((bs.take (2 + sz).toNat).map V.int)) := upd_same.trans (by rw [ec])
      have hwB : w ≠ B := (ne_of_none hB2 hw).symm
      have hwn : w ≠ nl := (ne_of_none hn2 hw).symm
      generalize upd H2 w (.lst (cutV (bs.map V.int) none (some (2 + sz)))) = H3 at sw hw3
      have tl : (bs.take (2 + sz).toNat).length = (2 + sz).toNat := by rw [List.length_take, Nat.min_eq_left hm8]
      refine ⟨_, rfl, _, rfl, B, _, _, _, rfl, rfl, SqL.of (sw _ _ hB2), at_int o1 (by omega), _, rfl, _, _, rfl, rfl, _, _, rfl, rfl, by show (0 : Int) < 26; decide, _, rfl, _, rfl, w, _, _, one.toNat, rfl, rfl, hw3, ix_in o1 (by rw [List.length_map, tl]; omega), ?_⟩
      have s3 : Same H2 (upd H3 w (.lst (((bs.take (2 + sz).toNat).map V.int).set one.toNat (V.int ((bs.getD one.toNat 0 + (0 + (i : Int))) % 26))))) := sw.over hw
      have hw4 : (upd H3 w (.lst (((bs.take (2 + sz).toNat).map V.int).set one.toNat (V.int ((bs.getD one.toNat 0 + (0 + (i : Int))) % 26))))) w = some (.lst (((bs.take (2 + sz).toNat).set one.toNat ((bs.getD one.toNat 0 + (0 + (i : Int))) % 26)).map V.int)) := upd_same.trans (by rw [List.map_set])
      generalize upd H3 w (.lst (((bs.take (2 + sz).toNat).map V.int).set one.toNat (V.int ((bs.getD one.toNat 0 + (0 + (i : Int))) % 26)))) = H4 at s3 hw4
      refine ⟨_, rfl, _, rfl, B, _, _, _, rfl, rfl, SqL.of (s3 _ _ hB2), at_int w0 (by omega), _, rfl, _, _, rfl, rfl, ⟨by decide, by decide⟩, _, _, rfl, rfl, _, _, rfl, rfl, by show (0 : Int) < 26; decide, _, rfl, _, rfl, w, _, _, two.toNat, rfl, rfl, hw4, ix_in w0 (by rw [List.length_map, List.length_set, tl]; omega), ?_⟩
      have s4 : Same H2 (upd H4 w (.lst ((((bs.take (2 + sz).toNat).set one.toNat ((bs.getD one.toNat 0 + (0 + (i : Int))) % 26)).map V.int).set two.toNat (V.int ((bs.getD two.toNat 0 + (0 + (i : Int)) / 26) % 26))))) := s3.over hw
      have hw5 : (upd H4 w (.lst ((((bs.take (2 + sz).toNat).set one.toNat ((bs.getD one.toNat 0 + (0 + (i : Int))) % 26)).map V.int).set two.toNat (V.int ((bs.getD two.toNat 0 + (0 + (i : Int)) / 26) % 26))))) w = some (.lst ((candW bs (2 + sz).toNat one.toNat two.toNat (0 + (i : Int))).map V.int)) := upd_same.trans (by unfold candW; simp only [List.map_set])
      generalize upd H4 w (.lst ((((bs.take (2 + sz).toNat).set one.toNat ((bs.getD one.toNat 0 + (0 + (i : Int))) % 26)).map V.int).set two.toNat (V.int ((bs.getD two.toNat 0 + (0 + (i : Int)) / 26) % 26)))) = H5 at s4 hw5
      have cl : (candW bs (2 + sz).toNat one.toNat two.toNat (0 + (i : Int))).length = (2 + sz).toNat := cand_len hm8
      have cr := cand_in hbr (2 + sz).toNat one.toNat two.toNat (0 + (i : Int))
      generalize hks : candW bs (2 + sz).toNat one.toNat two.toNat (0 + (i : Int)) = ks at hw5 cl cr
      have k8 : ks.length ≤ 8 := by omega
      refine ⟨rfl, _, rfl, w, rfl, ⟨_, SqL.of hw5⟩, comp_word (ks := ks) k8 cr (SqL.of hw5) (fun b H' Q h0 h1 s k => ⟨_, rfl, _, rfl, letters, _, _, rfl, rfl, by decide +kernel, lat h0 h1, k⟩) (fun H6 s6 d hd => ⟨_, d, _, rfl, rfl, .inl (SqL.of upd_same), word_bound k8, ?_⟩)⟩
      have s7 : Same H2 (upd H6 d (.lst ((ks.map fun k => (⟨#[97 + k.toNat]⟩ : Str)).map V.str))) := (s4.trans s6).put hd
      generalize upd H6 d (.lst ((ks.map fun k => (⟨#[97 + k.toNat]⟩ : Str)).map V.str)) = H7 at s7
      have ew := wd_join ks
      generalize Txt.join ("" : Str) (ks.map fun k => (⟨#[97 + k.toNat]⟩ : Str)) = nn at ew
      subst ew
      have hn7 := s7 _ _ hn2
      have hB7 := s7 _ _ hB2
      have nw : IsNm (wdOf ks) := wd_nm (by omega) k8 cr
      have hfl : (zs.map V.str).all flatV = true := by rw [List.all_eq_true]; intro v hv; obtain ⟨z, _, rfl⟩ := List.mem_map.mp hv; rfl
      by_cases hin : inV (V.str (wdOf ks)) (zs.map V.str) = true
      · refine ⟨_, rfl, _, rfl, nl, _, rfl, .inl (SqL.of hn7), rfl, hfl, _, rfl, iteFb (by rw [hin]; rfl) ?_⟩
        refine ⟨_, _, _, zs, rfl, sm.trans s7, hB7, hn7, nd, hnm, by omega, fun j hj => ?_⟩
        rcases Nat.lt_or_ge j i with k | k
        · exact hc j k
        · obtain rfl : j = i := by omega
          rw [hks]
          obtain ⟨z, hz, e⟩ := List.mem_map.mp (of_inV hin)
          rw [← V.str.inj e]
          exact hz
      · have hin2 : inV (V.str (wdOf ks)) (zs.map V.str) = false := by simpa using hin
        have hnz : wdOf ks ∉ zs := fun z => hin (inV_of (List.mem_map.mpr ⟨_, z, rfl⟩))
        refine ⟨_, rfl, _, rfl, nl, _, rfl, .inl (SqL.of hn7), rfl, hfl, _, rfl, iteTb (by rw [hin2]; rfl) ?_⟩
        refine ⟨_, rfl, .inl ⟨rfl, _, SqL.of hn7⟩, _, rfl, nl, _, _, rfl, rfl, hn7, Nat.lt_of_lt_of_le (show (zs.map V.str).length < 1000 by rw [List.length_map]; omega) big1000, ?_⟩
        have s8 : Same H (upd H7 nl (.lst (zs.map V.str ++ [V.str (wdOf ks)]))) := (sm.trans s7).over hn0
        refine ⟨_, _, _, zs ++ [wdOf ks], rfl, s8, by rw [upd_ne hnB.symm]; exact hB7, upd_same.trans (by rw [List.map_append]; rfl), snoc_nd nd hnz, fun z hz => ?_, by rw [List.length_append]; show zs.length + 1 ≤ _; omega, fun j hj => ?_⟩
        · rcases List.mem_append.mp hz with hz | hz
          · exact hnm z hz
          · rw [List.mem_singleton.mp hz]; exact nw
        · rcases Nat.lt_or_ge j i with k | k
          · exact List.mem_append_left _ (hc j k)
          · obtain rfl : j = i := by omega
            rw [hks]
            exact List.mem_append_right _ (by simp)
    · rintro σ H2 ⟨v9, v10, v11, zs, rfl, sm, hB2, hn2, nd, hnm, hlen, hc⟩
      have h12 : 12 ≤ zs.length := twelve hbr hm8 (show one.toNat < (2 + sz).toNat by omega) (show two.toNat ≠ one.toNat by omega) (fun j hj => hc j hj)
      have ec : cutV (zs.map V.str) none (some 12) = (zs.take 12).map V.str := (cut_to _ 12).trans (List.map_take ..).symm
      refine ⟨_, rfl, _, rfl, _, rfl, nl, _, rfl, SqL.of hn2, fun p hp => ?_⟩
      exact q p _ (zs.take 12) (sm.free hp) (sm.put hp) (by rw [List.length_take, Nat.min_eq_left h12]) (List.Pairwise.sublist (List.take_sublist 12 zs) nd) (fun z hz => hnm z (List.mem_of_mem_take hz)) (upd_same.trans (by rw [ec]))

theorem ok_law_label {C : Nat → Addr} (T : Tx K mg C) {f : Addr} {fd : FuncData} (F : Fun K "_law_label" "_law_label" s_law_label f fd) : FnOk P w K mg base CX0 3 f fd psLabel spLabel := by
  obtain ⟨f_law_pick, fd_law_pick, A_law_pick⟩ := T.a_law_pick
  obtain ⟨f_law_name, fd_law_name, A_law_name⟩ := T.a_law_name
  have G_law_name : FnOk P w K mg base CX0 2 f_law_name fd_law_name psName spName := ok_name A_law_name.F A_law_pick T.range
  have G_law_pick : FnOk P w K mg base CX0 1 f_law_pick fd_law_pick psPick spPick := ok_pick A_law_pick.F
  refine F.ok scLabel (fun vs H Q E h => ?_) (fun cdv A outer s H vs Q E hr h => ?_)
  · obtain ⟨c, rfl, _⟩ := h
    rfl
  · obtain ⟨c, rfl, q⟩ := h
    have hr1 : Room 1 _ := hr.mono (by decide)
    have hr2 : Room 2 _ := hr
    refine ⟨_, QSs.h (qss_cons (qs_set (i := 1) scLabel.nd rfl (Or.inl rfl) (qe_lst (qa_cons pe_str (qa_cons pe_str (qa_cons pe_str (qa_cons pe_str (qa_cons pe_str (qa_cons pe_str (qa_cons pe_str (qa_cons pe_str (qa_cons pe_str (qa_cons pe_str qa_nil))))))))))))
      (qss_cons (qs_if (pt_cmpR op_eq (pcall A_law_pick G_law_pick hr1 (pa_cons (pv 0) (pa_cons pe_int (pa_cons pe_int pa_nil)))) pe_int (nomark _)) (qss_one (qs_ret (pe_ix ix_list (pv 1) (pcall A_law_pick G_law_pick hr1 (pa_cons (pv 0) (pa_cons pe_int (pa_cons pe_int pa_nil)))) (fun _ _ => rfl)))) qss_nil)
      (qss_one (qs_ret (pcall A_law_name G_law_name hr2 (pa_cons (pv 0) pa_nil)))))), ?_⟩
    refine ⟨by show 10 ≤ sizeLine; decide, fun p hp => ?_⟩
    refine ⟨_, rfl, c, 28, 5, rfl, by decide, by decide, by decide, fun H1 s1 => ⟨rfl, _, rfl, iteVi (fun _ => ?_) (fun _ => ?_)⟩⟩
    · obtain ⟨v, hat, hm⟩ := atI_mem (xs := [V.str "let", V.str "deed", V.str "be", V.str "draw", V.str "late", V.str "as", V.str "take", V.str "from", V.str "need", V.str "part"]) (c := c) (k := 29) (Nat.succ_pos _)
      obtain ⟨z, rfl, hz⟩ := own_word hm
      exact ⟨_, rfl, _, rfl, c, 29, 10, rfl, by decide, by decide, by decide, fun H2 s2 => ⟨p, _, _, _, rfl, rfl, SqL.of (s2 _ _ (s1 _ _ upd_same)), hat, q z hz H2 ((Same.new hp).trans (s1.trans s2))⟩⟩
    · exact ⟨_, rfl, c, rfl, fun H2 s2 => q (name c) (isNm_name c) H2 ((Same.new hp).trans (s1.trans s2))⟩

theorem ok_law_address {C : Nat → Addr} (T : Tx K mg C) {f : Addr} {fd : FuncData} (F : Fun K "_law_address" "_law_address" s_law_address f fd) : FnOk P w K mg base CX0 4 f fd psAddress spAddr := by
  obtain ⟨f_law_label, fd_law_label, A_law_label⟩ := T.a_law_label
  have G_law_label : FnOk P w K mg base CX0 3 f_law_label fd_law_label psLabel spLabel := ok_law_label T A_law_label.F
  obtain ⟨f_law_sub, fd_law_sub, A_law_sub⟩ := T.a_law_sub
  have G_law_sub : FnOk P w K mg base CX0 1 f_law_sub fd_law_sub psSub spSub := ok_sub A_law_sub.F
  obtain ⟨f_law_pick, fd_law_pick, A_law_pick⟩ := T.a_law_pick
  have G_law_pick : FnOk P w K mg base CX0 1 f_law_pick fd_law_pick psPick spPick := ok_pick A_law_pick.F
  refine F.ok scAddress (fun vs H Q E h => ?_) (fun cdv A outer s H vs Q E hr h => ?_)
  · obtain ⟨c, rfl, _⟩ := h
    rfl
  · obtain ⟨c, rfl, q⟩ := h
    have hr1 : Room 1 _ := hr.mono (by decide)
    have hr3 : Room 3 _ := hr
    refine ⟨_, QSs.h (qss_one (qs_ret (pe_bm PySem.F.plainAttrs_str PySem.F.slot_str_join PySem.F.type_str_join mt_join pe_str (pa_cons (pe_comp (N := ["_law_j", "_law_cell_here"]) [none, some 0] rfl (by kernel_rfl) (pi_range1 (by rfl) T.range (pa_cons (pe_op op_add pe_int (pcall A_law_pick G_law_pick hr1 (pa_cons (pv 0) (pa_cons pe_int (pa_cons pe_int pa_nil))))) pa_nil)) (fun cl C fp s H => (pg_name (i := 0) (by decide +kernel : (["_law_j", "_law_cell_here"] : List Str).Nodup) rfl (Or.inl rfl))) (fun cl C fp s H => pf_nil) (fun cl C fp s H => (pcall A_law_label G_law_label hr3 (pa_cons (pcall A_law_sub G_law_sub hr1 (pa_cons (pv 1) (pa_cons (pv 0) pa_nil))) pa_nil)))) pa_nil)))), ?_⟩
    have m1 := pick_ge c 27 (m := 3) (by decide)
    have m2 := pick_lt c 27 (m := 3) (by decide)
    refine ⟨rfl, ?_⟩
    refine ⟨_, rfl, c, 27, 3, rfl, by decide, by decide, by decide, fun H1 s1 => ?_⟩
    refine ⟨_, _, rfl, rfl, _, rfl, by omega, by omega, ?_⟩
    refine comp_rangeP (fun i v H' => ∃ z, v = V.str z ∧ IsNm z) (fun i v H' H'' h _ => h) (Nat.le_trans (show (1 + pick c 27 3).toNat ≤ 8 by omega) (by decide)) (fun i H' Q' hi sm k' => ?_) (fun xs H2 s2 hl hx p hp => ?_)
    · have hi' : i < (1 + pick c 27 3).toNat := hi
      exact ⟨_, rfl, _, rfl, c, 0 + (i : Int), rfl, by omega, by omega, fun H3 s3 => ⟨_, rfl, fun z hz H4 s4 => k' _ H4 (s3.trans s4) ⟨z, rfl, hz⟩⟩⟩
    · obtain ⟨ys, hyl, rfl, hyn⟩ := names_of hx
      have hs : (ys.map (·.length)).sum ≤ ys.length * 8 := sum_le fun y hy => (hyn y hy).hi
      refine ⟨_, p, ys, rfl, rfl, .inl (SqL.of upd_same), by rw [dotlen]; omega, q ys ⟨fun z => ?_, by omega, hyn⟩ _ ((s1.trans s2).put hp)⟩
      rw [z, List.map_nil, List.length_nil] at hl
      omega

theorem ok_law_term {C : Nat → Addr} (T : Tx K mg C) {f : Addr} {fd : FuncData} (F : Fun K "_law_term" "_law_term" s_law_term f fd) : FnOk P w K mg base CX0 4 f fd psTerm spTerm := by
  obtain ⟨f_law_pick, fd_law_pick, A_law_pick⟩ := T.a_law_pick
  have G_law_pick : FnOk P w K mg base CX0 1 f_law_pick fd_law_pick psPick spPick := ok_pick A_law_pick.F
  obtain ⟨f_law_label, fd_law_label, A_law_label⟩ := T.a_law_label
  have G_law_label : FnOk P w K mg base CX0 3 f_law_label fd_law_label psLabel spLabel := ok_law_label T A_law_label.F
  obtain ⟨f_law_sub, fd_law_sub, A_law_sub⟩ := T.a_law_sub
  have G_law_sub : FnOk P w K mg base CX0 1 f_law_sub fd_law_sub psSub spSub := ok_sub A_law_sub.F
  obtain ⟨f_law_number, fd_law_number, A_law_number⟩ := T.a_law_number
  have G_law_number : FnOk P w K mg base CX0 1 f_law_number fd_law_number psNumber spNumber := ok_number A_law_number.F
  refine F.ok scTerm (fun vs H Q E h => ?_) (fun cdv A outer s H vs Q E hr h => ?_)
  · obtain ⟨c, b, rfl, _⟩ := h
    rfl
  · obtain ⟨c, b, rfl, q⟩ := h
    have hr1 : Room 1 _ := hr.mono (by decide)
    have hr3 : Room 3 _ := hr
    refine ⟨_, QSs.h (qss_cons (qs_set (i := 2) scTerm.nd rfl (Or.inl rfl) (pe_ix ix_list (pe_lst (pa_cons pe_int (pa_cons (pe_op op_sub pe_int (pe_op op_mul pe_int (pcall A_law_pick G_law_pick hr1 (pa_cons (pv 0) (pa_cons pe_int (pa_cons pe_int pa_nil)))))) pa_nil))) (pe_callTy call_int1 (by rfl) T.t_int PyProof.Rows.boot_int (pa_cons (pe_not (pv 1)) pa_nil)) (fun _ _ => rfl)))
      (qss_cons (qs_set (i := 3) scTerm.nd rfl (Or.inl rfl) (pcall A_law_pick G_law_pick hr1 (pa_cons (pv 0) (pa_cons pe_int (pa_cons pe_int pa_nil)))))
      (qss_cons (qs_if (pt_cmpR op_eq (pv 3) pe_int (nomark _)) (qss_cons (qs_set (i := 4) scTerm.nd rfl (Or.inl rfl) (pe_ix ix_list (pe_lst (pa_cons pe_int (pa_cons pe_int (pa_cons (pe_op op_pow pe_int pe_int) (pa_cons (pe_op op_pow pe_int pe_int) pa_nil))))) (pcall A_law_pick G_law_pick hr1 (pa_cons (pv 0) (pa_cons pe_int (pa_cons pe_int pa_nil)))) (fun _ _ => rfl)))
      (qss_one (qs_ret (pe_tup (pa_cons (pv 2) (pa_cons pe_str (pa_cons (pe_ix ix_list (pe_lst (pa_cons (pcall A_law_number G_law_number hr1 (pa_cons (pv 0) (pa_cons (pv 4) pa_nil))) (pa_cons pe_int (pa_cons (pe_op op_sub (pv 4) pe_int) pa_nil)))) (pcall A_law_pick G_law_pick hr1 (pa_cons (pv 0) (pa_cons pe_int (pa_cons pe_int pa_nil)))) (fun _ _ => rfl)) pa_nil))))))) qss_nil)
      (qss_cons (qs_comp (N := ["_law_j", "_law_cell_here"]) [none, some 0] (i := 5) scTerm.nd rfl (Or.inl rfl) rfl (by kernel_rfl) (pi_range1 (by rfl) T.range (pa_cons (pe_op op_add pe_int (pcall A_law_pick G_law_pick hr1 (pa_cons (pv 0) (pa_cons pe_int (pa_cons pe_int pa_nil))))) pa_nil)) (fun cl C fp s H => (pg_name (i := 0) (by decide +kernel : (["_law_j", "_law_cell_here"] : List Str).Nodup) rfl (Or.inl rfl))) (fun cl C fp s H => pf_nil) (fun cl C fp s H => (pcall A_law_label G_law_label hr3 (pa_cons (pcall A_law_sub G_law_sub hr1 (pa_cons (pv 1) (pa_cons (pv 0) pa_nil))) pa_nil))))
      (qss_one (qs_ret (pe_tup (pa_cons (pv 2) (pa_cons (pe_ix ix_list (pe_lst (pa_cons pe_str (pa_cons pe_str pa_nil))) (pe_callTy call_int1 (by rfl) T.t_int PyProof.Rows.boot_int (pa_cons (pe_cmpR op_eq (pv 3) pe_int (nomark _)) pa_nil)) (fun _ _ => rfl)) (pa_cons (pe_callTy call_tuple_of (by rfl) T.t_tuple PyProof.Rows.boot_tuple (pa_cons (pv 5) pa_nil)) pa_nil)))))))))), ?_⟩
    have k1 := pick_ge c 1 (m := 2) (by decide)
    have k2 := pick_lt c 1 (m := 2) (by decide)
    refine ⟨_, rfl, c, 1, 2, rfl, by decide, by decide, by decide, fun H1 s1 => ⟨_, _, rfl, rfl, .inl ⟨by decide, by decide⟩, _, _, rfl, rfl, by show 2 ≤ sizeLine; decide, fun p hp => ?_⟩⟩
    have hat : atI [V.int 1, V.int (1 - 2 * pick c 1 2)] (if (!b) = true then 1 else 0) = some (V.int (if b = true then 1 else 1 - 2 * pick c 1 2)) := by cases b <;> rfl
    refine ⟨_, rfl, _, rfl, .inr ⟨_, rfl, p, _, _, _, rfl, rfl, SqL.of upd_same, hat, ?_⟩⟩
    have hsg : (if b = true then (1 : Int) else 1 - 2 * pick c 1 2) = 1 ∨ (if b = true then (1 : Int) else 1 - 2 * pick c 1 2) = -1 := by split <;> omega
    have hfst : b = true → (if b = true then (1 : Int) else 1 - 2 * pick c 1 2) = 1 := fun e => if_pos e
    generalize (if b = true then (1 : Int) else 1 - 2 * pick c 1 2) = sg at hsg hfst
    have s2 : Same H (upd H1 p (.lst [V.int 1, V.int (1 - 2 * pick c 1 2)])) := s1.put hp
    generalize upd H1 p (.lst [V.int 1, V.int (1 - 2 * pick c 1 2)]) = H2 at s2
    refine ⟨_, rfl, c, 2, 4, rfl, by decide, by decide, by decide, fun H3 s3 => ?_⟩
    generalize pick c 2 4 = way
    refine ⟨_, rfl, rfl, _, rfl, iteVi (fun _ => ?_) (fun _ => ?_)⟩
    · refine ⟨_, _, rfl, rfl, ⟨by decide, by decide, by decide⟩, _, _, rfl, rfl, ⟨by decide, by decide, by decide⟩, by show 4 ≤ sizeLine; decide, fun p2 hp2 => ?_⟩
      obtain ⟨fv, hfat, hfm⟩ := atI_mem (xs := [V.int 10, V.int 1000, V.int (10 ^ (10 : Int).toNat), V.int (10 ^ (20 : Int).toNat)]) (c := c) (k := 3) (Nat.succ_pos _)
      have hfar : ∃ far : Int, fv = .int far ∧ 0 < far ∧ far ≤ 10 ^ 20 := by
        simp only [List.mem_cons, List.not_mem_nil, or_false] at hfm
        rcases hfm with rfl | rfl | rfl | rfl
        · exact ⟨_, rfl, by decide, by decide⟩
        · exact ⟨_, rfl, by decide, by decide⟩
        · exact ⟨_, rfl, by decide, by decide⟩
        · exact ⟨_, rfl, by decide, by decide⟩
      obtain ⟨far, rfl, f0, f1⟩ := hfar
      refine ⟨_, rfl, c, 3, 4, rfl, by decide, by decide, by decide, fun H4 s4 => ⟨p2, _, _, V.int far, rfl, rfl, SqL.of (s4 _ _ upd_same), hfat, ?_⟩⟩
      have s24 : Same H H4 := s2.trans (s3.trans ((Same.new hp2).trans s4))
      refine ⟨_, rfl, _, rfl, _, rfl, c, far, rfl, f0, fun H5 s5 => ⟨_, rfl, _, _, rfl, rfl, by show 3 ≤ sizeLine; decide, fun p3 hp3 => ?_⟩⟩
      have n0 := number_ge c f0
      have n1 := number_lt c f0
      obtain ⟨nv, hnat, hnm⟩ := atI_mem (xs := [V.int (number c far), V.int 0, V.int (far - 1)]) (c := c) (k := 4) (Nat.succ_pos _)
      have hnum : ∃ m : Nat, nv = .int ((m : Nat) : Int) ∧ m < 10 ^ 20 := by
        have key : ∀ n : Int, 0 ≤ n → n < far → ∃ m : Nat, V.int n = .int ((m : Nat) : Int) ∧ m < 10 ^ 20 := fun n h0 h1 => by
          obtain ⟨m, rfl⟩ := Int.eq_ofNat_of_zero_le h0
          exact ⟨m, rfl, by omega⟩
        simp only [List.mem_cons, List.not_mem_nil, or_false] at hnm
        rcases hnm with rfl | rfl | rfl
        · exact key _ n0 n1
        · exact key 0 (by omega) f0
        · exact key (far - 1) (by omega) (by omega)
      obtain ⟨m, rfl, hm⟩ := hnum
      refine ⟨_, rfl, c, 4, 3, rfl, by decide, by decide, by decide, fun H6 s6 => ⟨p3, _, _, V.int ((m : Nat) : Int), rfl, rfl, SqL.of (s6 _ _ upd_same), hnat, by show 3 ≤ sizeLine; decide, fun p4 hp4 => ?_⟩⟩
      exact q _ _ ⟨sg, .num m⟩ ((s24.trans (s5.trans ((Same.new hp3).trans s6))).put hp4) ⟨hsg, hm⟩ hfst ⟨p4, _, rfl, upd_same, rfl⟩
    · have m1 := pick_ge c 5 (m := 4) (by decide)
      have m2 := pick_lt c 5 (m := 4) (by decide)
      refine ⟨_, rfl, c, 5, 4, rfl, by decide, by decide, by decide, fun H4 s4 => ?_⟩
      refine ⟨_, _, rfl, rfl, _, rfl, by omega, by omega, ?_⟩
      refine comp_rangeP (fun i v H' => ∃ z, v = V.str z ∧ IsNm z) (fun i v H' H'' h _ => h) (Nat.le_trans (show (1 + pick c 5 4).toNat ≤ 8 by omega) (by decide)) (fun j H' Q' hj sm k' => ?_) (fun xs H5 s5 hl hx d hd5 => ?_)
      · have hj' : j < (1 + pick c 5 4).toNat := hj
        exact ⟨_, rfl, _, rfl, c, 0 + (j : Int), rfl, by omega, by omega, fun H6 s6 => ⟨_, rfl, fun z hz H7 s7 => k' _ H7 (s6.trans s7) ⟨z, rfl, hz⟩⟩⟩
      · obtain ⟨ys, hyl, rfl, hyn⟩ := names_of hx
        have hgn : GoodN ys := by
          refine ⟨fun z => ?_, by omega, hyn⟩
          rw [z, List.map_nil, List.length_nil] at hl
          omega
        have s6 : Same H (upd H5 d (.lst (ys.map V.str))) := (s2.trans (s3.trans (s4.trans s5))).put hd5
        have hdd : upd H5 d (.lst (ys.map V.str)) d = some (.lst (ys.map V.str)) := upd_same
        generalize upd H5 d (.lst (ys.map V.str)) = H6 at s6 hdd
        refine ⟨_, rfl, by show 2 ≤ sizeLine; decide, fun p2 hp2 => ?_⟩
        have hkat : atI [V.str "path", V.str "call"] (if decide (V.int way = V.int 3) = true then 1 else 0) = some (V.str (kindOf (.nms (decide (V.int way = V.int 3)) ys))) := by cases decide (V.int way = V.int 3) <;> rfl
        refine ⟨_, rfl, rfl, .inr ⟨_, rfl, p2, _, _, _, rfl, rfl, SqL.of upd_same, hkat, ?_⟩⟩
        refine ⟨_, rfl, d, _, rfl, .inl ⟨SqL.of ((Same.new hp2) _ _ hdd), fun p3 hp3 => ⟨by show 3 ≤ sizeLine; decide, fun p4 hp4 => ?_⟩⟩⟩
        refine q _ _ ⟨sg, .nms (decide (V.int way = V.int 3)) ys⟩ (((s6.put hp2).put hp3).put hp4) ⟨hsg, hgn⟩ hfst ⟨p4, _, rfl, upd_same, p3, rfl, ?_⟩
        exact (Same.new hp4) _ _ upd_same

theorem ok_law_terms {C : Nat → Addr} (T : Tx K mg C) {f : Addr} {fd : FuncData} (F : Fun K "_law_terms" "_law_terms" s_law_terms f fd) : FnOk P w K mg base CX0 5 f fd psTerms spTermsF := by
  obtain ⟨f_law_term, fd_law_term, A_law_term⟩ := T.a_law_term
  have G_law_term : FnOk P w K mg base CX0 4 f_law_term fd_law_term psTerm spTerm := ok_law_term T A_law_term.F
  obtain ⟨f_law_sub, fd_law_sub, A_law_sub⟩ := T.a_law_sub
  have G_law_sub : FnOk P w K mg base CX0 1 f_law_sub fd_law_sub psSub spSub := ok_sub A_law_sub.F
  obtain ⟨f_law_pick, fd_law_pick, A_law_pick⟩ := T.a_law_pick
  have G_law_pick : FnOk P w K mg base CX0 1 f_law_pick fd_law_pick psPick spPick := ok_pick A_law_pick.F
  refine F.ok scTerms (fun vs H Q E h => ?_) (fun cdv A outer s H vs Q E hr h => ?_)
  · obtain ⟨c, rfl, _⟩ := h
    rfl
  · obtain ⟨c, rfl, q⟩ := h
    have hr1 : Room 1 _ := hr.mono (by decide)
    have hr4 : Room 4 _ := hr
    refine ⟨_, QSs.h (qss_one (qs_ret (pe_comp (N := ["_law_k", "_law_cell_here"]) [none, some 0] rfl (by kernel_rfl) (pi_range1 (by rfl) T.range (pa_cons (pe_op op_add pe_int (pcall A_law_pick G_law_pick hr1 (pa_cons (pv 0) (pa_cons pe_int (pa_cons pe_int pa_nil))))) pa_nil)) (fun cl C fp s H => (pg_name (i := 0) (by decide +kernel : (["_law_k", "_law_cell_here"] : List Str).Nodup) rfl (Or.inl rfl))) (fun cl C fp s H => pf_nil) (fun cl C fp s H => (pcall A_law_term G_law_term hr4 (pa_cons (pcall A_law_sub G_law_sub hr1 (pa_cons (pv 1) (pa_cons (pe_op op_add pe_int (pe_op op_mul pe_int (pv 0))) pa_nil))) (pa_cons (pe_cmpR op_eq (pv 0) pe_int (nomark _)) pa_nil))))))), ?_⟩
    have m1 := pick_ge c 0 (m := 6) (by decide)
    have m2 := pick_lt c 0 (m := 6) (by decide)
    refine ⟨_, rfl, c, 0, 6, rfl, by decide, by decide, by decide, fun H1 s1 => ?_⟩
    refine ⟨_, _, rfl, rfl, _, rfl, by omega, by omega, ?_⟩
    refine comp_rangeP (fun i v H' => ∃ t, GoodT t ∧ (i = 0 → t.sg = 1) ∧ TmAt H' v t) (fun i v H' H'' ⟨t, a, b, d⟩ s => ⟨t, a, b, d.same s⟩) (Nat.le_trans (show (1 + pick c 0 6).toNat ≤ 8 by omega) (by decide)) (fun i H' Q' hi sm k' => ?_) (fun xs H2 s2 hl hx p hp => ?_)
    · have hi' : i < (1 + pick c 0 6).toNat := hi
      refine ⟨_, rfl, _, rfl, _, _, rfl, rfl, .inl ⟨by decide, by decide⟩, _, _, rfl, rfl, c, 1 + 5 * (0 + (i : Int)), rfl, by omega, by omega, fun H3 s3 => ?_⟩
      refine ⟨_, rfl, rfl, _, _, rfl, fun v H4 t s4 gt g0 tm => ?_⟩
      refine k' v H4 (s3.trans s4) ⟨t, gt, fun e => g0 (decide_eq_true ?_), tm⟩
      subst e
      rfl
    · obtain ⟨ts, htl, hts⟩ := choose_list (fun i v t => GoodT t ∧ (i = 0 → t.sg = 1) ∧ TmAt H2 v t) xs 0 (fun i v e => by rw [Nat.zero_add]; exact hx i v e)
      have back : ∀ (i : Nat) t, ts[i]? = some t → ∃ v, xs[i]? = some v := fun i t e => by
        have hi := (List.getElem?_eq_some_iff.mp e).1
        exact ⟨xs[i]'(by omega), List.getElem?_eq_getElem (by omega)⟩
      refine q p _ ts ((s1.trans s2).free hp) ((s1.trans s2).put hp) ⟨fun z => ?_, by omega, fun t ht => ?_, fun t ht => ?_⟩ ⟨xs, upd_same, htl.symm, fun i x e => ?_⟩
      · rw [z] at htl; simp at htl; omega
      · obtain ⟨i, hi, e⟩ := List.getElem_of_mem ht
        have e' : ts[i]? = some t := by rw [List.getElem?_eq_getElem hi, e]
        obtain ⟨v, hv⟩ := back i t e'
        obtain ⟨t', et, gt, _⟩ := hts i v hv
        rw [e'] at et; cases et
        exact gt
      · have e' : ts[0]? = some t := by rw [← List.head?_eq_getElem?]; exact ht
        obtain ⟨v, hv⟩ := back 0 t e'
        obtain ⟨t', et, _, g0, _⟩ := hts 0 v hv
        rw [e'] at et; cases et
        exact g0 rfl
      · obtain ⟨t, et, _, _, tm⟩ := hts i x e
        exact ⟨t, et, tm.same (Same.new hp)⟩

theorem ok_law_word {C : Nat → Addr} (T : Tx K mg C) {f : Addr} {fd : FuncData} (F : Fun K "_law_word" "_law_word" s_law_word f fd) : FnOk P w K mg base CX0 1 f fd psWord spWord := by
  refine F.ok scWord (fun vs H Q E h => ?_) (fun cdv A outer s H vs Q E hr h => ?_)
  · obtain ⟨v, t, rfl, _⟩ := h
    rfl
  · obtain ⟨v, t, rfl, tm, gt, q⟩ := h
    refine ⟨_, QSs.h (qss_cons (qs_asg (pv 0) (pg_tupK (K := K) (n := 3) rfl rfl (pgs_cons (pg_name (i := 1) scWord.nd rfl (Or.inl rfl)) (pgs_cons (pg_name (i := 2) scWord.nd rfl (Or.inl rfl)) (pgs_cons (pg_name (i := 3) scWord.nd rfl (Or.inl rfl)) pgs_nil)))))
      (qss_cons (qs_if (pt_cmpR op_eq (pv 2) pe_str (nomark _)) (qss_one (qs_ret (pe_callTy call_str_int (by rfl) T.t_str PyProof.Rows.boot_str (pa_cons (pv 3) pa_nil)))) qss_nil)
      (qss_one (qs_ret (pe_op op_add_str (pe_bm PySem.F.plainAttrs_str PySem.F.slot_str_join PySem.F.type_str_join mt_join pe_str (pa_cons (pv 3) pa_nil)) (pe_op op_rep_str pe_str (pe_callTy call_int1 (by rfl) T.t_int PyProof.Rows.boot_int (pa_cons (pe_cmpR op_eq (pv 2) pe_str (nomark _)) pa_nil)))))))), ?_⟩
    obtain ⟨p, x, rfl, hp, hx⟩ := tm
    refine ⟨_, rfl, p, _, rfl, SqT.of hp, rfl, _, _, rfl, _, _, rfl, _, _, rfl, rfl, ?_⟩
    have gth := gt.th
    have q0 := q H (Same.refl H)
    generalize t.th = th at hx gth q0 hp
    cases th with
    | num m =>
      cases hx
      exact ⟨_, rfl, rfl, _, rfl, iteTb (decide_eq_true (show V.str (kindOf (.num m)) = V.str "number" from rfl)) ⟨_, rfl, _, rfl, log2_small gth, q0⟩⟩
    | nms c ys =>
      have gn : GoodN ys := gth
      obtain ⟨r, rfl, hr'⟩ := hx
      have hkn : ¬ V.str (kindOf (.nms c ys)) = V.str "number" := by
        cases c
        · show ¬ V.str "path" = V.str "number"; decide +kernel
        · show ¬ V.str "call" = V.str "number"; decide +kernel
      refine ⟨_, rfl, rfl, _, rfl, iteFb (decide_eq_false hkn) ?_⟩
      have hs : (ys.map (·.length)).sum ≤ ys.length * 8 := sum_le fun y hy => (gn.nm y hy).hi
      have h4 := gn.hi
      have hdl := gn.len
      refine ⟨rfl, _, rfl, _, r, ys, rfl, rfl, .inr (SqT.of hr'), by rw [dotlen]; omega, ?_⟩
      have hk : decide (V.str (kindOf (.nms c ys)) = V.str "call") = c := by
        cases c
        · exact decide_eq_false (by show ¬ V.str "path" = V.str "call"; decide +kernel)
        · exact decide_eq_true rfl
      refine ⟨_, rfl, rfl, .inr ⟨_, rfl, brk, _, rfl, rfl, mul_brk_ok _, _, _, rfl, rfl, ?_, ?_⟩⟩
      · rw [mul_brk]
        have : (dotted ys).length + (if decide (V.str (kindOf (.nms c ys)) = V.str "call") = true then brk else Str.empty).length ≤ 1000 := by
          split
          · rw [brk_len]; omega
          · show (dotted ys).length + 0 ≤ 1000; omega
        exact Nat.le_trans this big1000
      · show Q (.str (dotted ys ++ Txt.mul brk (if decide (V.str (kindOf (.nms c ys)) = V.str "call") = true then 1 else 0))) H
        rw [mul_brk, hk]
        cases c with
        | true => exact q0
        | false =>
          rw [if_neg (by decide), app_empty]
          exact q0

theorem ok_law_text {C : Nat → Addr} (T : Tx K mg C) {f : Addr} {fd : FuncData} (F : Fun K "_law_text" "_law_text" s_law_text f fd) : FnOk P w K mg base CX0 2 f fd psText spText := by
  obtain ⟨f_law_word, fd_law_word, A_law_word⟩ := T.a_law_word
  have G_law_word : FnOk P w K mg base CX0 1 f_law_word fd_law_word psWord spWord := ok_law_word T A_law_word.F
  refine F.ok scText (fun vs H Q E h => ?_) (fun cdv A outer s H vs Q E hr h => ?_)
  · obtain ⟨l, ts, rfl, _⟩ := h
    rfl
  · obtain ⟨l, ts, rfl, ⟨xs, hl, hxl, hx⟩, hg, q⟩ := h
    have hr1 : Room 1 _ := hr
    refine ⟨_, QSs.h (qss_cons (qs_set (i := 1) scText.nd rfl (Or.inl rfl) (pcall A_law_word G_law_word hr1 (pa_cons (pe_ix ix_list (pv 0) pe_int (fun _ _ => rfl)) pa_nil)))
      (qss_cons (qs_for PassesOwn.never rfl (pi_list (pe_slice sl_list (pv 0) (po_some pe_int) po_none)) (pg_name (i := 2) scText.nd rfl (Or.inl rfl))
      (qss_one (qs_set (i := 1) scText.nd rfl (Or.inl rfl) (pe_op op_add_str (pe_op op_add_str (pv 1) (pe_ix ix_list (pe_lst (pa_cons pe_str (pa_cons pe_str pa_nil))) (pe_callTy call_int1 (by rfl) T.t_int PyProof.Rows.boot_int (pa_cons (pe_cmpR op_eq (pe_ix ix_tup (pv 2) pe_int (fun _ _ => rfl)) pe_int (nomark _)) pa_nil)) (fun _ _ => rfl))) (pcall A_law_word G_law_word hr1 (pa_cons (pv 2) pa_nil))))))
      (qss_one (qs_ret (pv 1))))), ?_⟩
    cases ts with
    | nil => exact absurd rfl hg.lo
    | cons t0 tr =>
    cases xs with
    | nil => simp at hxl
    | cons x0 xr =>
    obtain ⟨t0', e0, tm0⟩ := hx 0 x0 rfl
    cases e0
    have h6 := hg.hi
    have hll : xr.length = tr.length := by simpa using hxl
    refine ⟨_, rfl, l, _, _, x0, rfl, rfl, SqL.of hl, atI_nat (j := 0) rfl, x0, t0, rfl, tm0, hg.ok t0 List.mem_cons_self, fun H1 s1 => ?_⟩
    refine ⟨_, rfl, _, rfl, l, _, rfl, SqL.of (s1 _ _ hl), fun p hp => ?_⟩
    rw [cut_drop]
    have s2 : Same H (upd H1 p (.lst (List.drop 1 (x0 :: xr)))) := s1.put hp
    refine ⟨p, rfl, ⟨_, SqL.of upd_same⟩, ?_⟩
    have hp2' : upd H1 p (.lst (List.drop 1 (x0 :: xr))) p = some (.lst xr) := upd_same
    generalize upd H1 p (.lst (List.drop 1 (x0 :: xr))) = H2 at s2 hp2'
    refine for_list (xs := xr) (fun i σ H' => ∃ v2, σ = [some (.ref l), some (.str (textOf ((t0 :: tr).take (i + 1)))), v2] ∧ Same H2 H') ⟨none, rfl, Same.refl _⟩ ?_ ?_ ?_
    · rintro i σ H' _ ⟨v2, rfl, sm⟩
      exact SqL.of (sm _ _ hp2')
    · rintro i x σ H3 hxi ⟨v2, rfl, sm⟩
      obtain ⟨t, et, tm⟩ := hx (i + 1) x (by simpa using hxi)
      have gt : GoodT t := hg.ok t (List.mem_of_getElem? et)
      have tm3 : TmAt H3 x t := tm.same (s2.trans sm)
      obtain ⟨a, y, rfl, ha, hy⟩ := id tm3
      have wl := word_len gt.th
      have tl := textOf_len (ts := (t0 :: tr).take (i + 1)) fun t ht => hg.ok t (List.mem_of_mem_take ht)
      have tll : ((t0 :: tr).take (i + 1)).length ≤ 6 := by rw [List.length_take]; omega
      have gl := gap_len t.sg
      have hgat : atI [V.str " - ", V.str " + "] (if decide (V.int t.sg = V.int 1) = true then 1 else 0) = some (V.str (gap t.sg)) := by
        unfold gap
        by_cases h : t.sg = 1
        · rw [decide_eq_true (congrArg V.int h), if_pos h]; rfl
        · rw [decide_eq_false (fun e => h (V.int.inj e)), if_neg h]; rfl
      refine ⟨_, rfl, by show 2 ≤ sizeLine; decide, fun b hb => ?_⟩
      refine ⟨_, rfl, a, _, _, V.int t.sg, rfl, rfl, SqT.of ((Same.new hb) _ _ ha), rfl, rfl, .inr ⟨_, rfl, b, _, _, _, rfl, rfl, SqL.of upd_same, hgat, ?_⟩⟩
      refine ⟨_, _, rfl, rfl, Nat.le_trans (show _ ≤ 1000 by omega) big1000, _, rfl, _, t, rfl, tm3.same (Same.new hb), gt, fun H4 s4 => ?_⟩
      refine ⟨_, _, rfl, rfl, Nat.le_trans (show _ ≤ 1000 by rw [appLen]; omega) big1000, ?_⟩
      refine ⟨some (V.ref a), ?_, sm.trans ((Same.new hb).trans s4)⟩
      have e3 : textOf ((t0 :: tr).take (i + 1 + 1)) = textOf ((t0 :: tr).take (i + 1)) ++ gap t.sg ++ wordOf t.th := by
        rw [List.take_add_one (i := i + 1), et]
        exact textOf_snoc t (by simp)
      rw [e3]
      rfl
    · rintro σ H3 ⟨v2, rfl, sm⟩
      have e : (t0 :: tr).take (xr.length + 1) = t0 :: tr := List.take_of_length_le (by simp; omega)
      have q' := q H3 (s2.trans sm)
      rw [← e] at q'
      exact ⟨_, rfl, q'⟩

theorem ok_law_row {C : Nat → Addr} (T : Tx K mg C) {f : Addr} {fd : FuncData} (F : Fun K "_law_row" "_law_row" s_law_row f fd) : FnOk P w K mg base CX0 6 f fd psRow spRow4 := by
  obtain ⟨f_law_terms, fd_law_terms, A_law_terms⟩ := T.a_law_terms
  have G_law_terms : FnOk P w K mg base CX0 5 f_law_terms fd_law_terms psTerms spTermsF := ok_law_terms T A_law_terms.F
  obtain ⟨f_law_pick, fd_law_pick, A_law_pick⟩ := T.a_law_pick
  have G_law_pick : FnOk P w K mg base CX0 1 f_law_pick fd_law_pick psPick spPick := ok_pick A_law_pick.F
  obtain ⟨f_law_address, fd_law_address, A_law_address⟩ := T.a_law_address
  have G_law_address : FnOk P w K mg base CX0 4 f_law_address fd_law_address psAddress spAddr := ok_law_address T A_law_address.F
  obtain ⟨f_law_label, fd_law_label, A_law_label⟩ := T.a_law_label
  have G_law_label : FnOk P w K mg base CX0 3 f_law_label fd_law_label psLabel spLabel := ok_law_label T A_law_label.F
  obtain ⟨f_law_sub, fd_law_sub, A_law_sub⟩ := T.a_law_sub
  have G_law_sub : FnOk P w K mg base CX0 1 f_law_sub fd_law_sub psSub spSub := ok_sub A_law_sub.F
  refine F.ok scRow (fun vs H Q E h => ?_) (fun cdv A outer s H vs Q E hr h => ?_)
  · obtain ⟨c, z, rfl, _⟩ := h
    rfl
  · obtain ⟨c, z, rfl, hz, q⟩ := h
    have hr1 : Room 1 _ := hr.mono (by decide)
    have hr3 : Room 3 _ := hr.mono (by decide)
    have hr4 : Room 4 _ := hr.mono (by decide)
    have hr5 : Room 5 _ := hr
    refine ⟨_, QSs.h (qss_cons (qs_setQ (i := 2) scRow.nd rfl (Or.inl rfl) (qe_ix ix_list (qe_lstQ (qa_cons pe_str (qa_cons pe_str (qa_cons pe_str (qa_cons pe_str (qa_cons pe_str (qa_cons pe_str qa_nil))))))) (pcall A_law_pick G_law_pick hr1 (pa_cons (pv 0) (pa_cons pe_int (pa_cons pe_int pa_nil)))) (fun _ _ => rfl)))
      (qss_cons (qs_set (i := 3) scRow.nd rfl (Or.inl rfl) (pcall A_law_terms G_law_terms hr5 (pa_cons (pv 0) pa_nil)))
      (qss_cons (qs_if (pt_cmpR op_eq (pv 2) pe_str (nomark _)) (qss_one (qs_comp (N := ["_law_sign", "_law_kind", "_law_thing"]) [none, none, none] (i := 3) scRow.nd rfl (Or.inl rfl) rfl (by kernel_rfl) (pi_list (pv 3)) (fun cl C fp s H => (pg_tupK (K := K) (n := 3) rfl rfl (pgs_cons (pg_name (i := 0) (by decide +kernel : (["_law_sign", "_law_kind", "_law_thing"] : List Str).Nodup) rfl (Or.inl rfl)) (pgs_cons (pg_name (i := 1) (by decide +kernel : (["_law_sign", "_law_kind", "_law_thing"] : List Str).Nodup) rfl (Or.inl rfl)) (pgs_cons (pg_name (i := 2) (by decide +kernel : (["_law_sign", "_law_kind", "_law_thing"] : List Str).Nodup) rfl (Or.inl rfl)) pgs_nil))))) (fun cl C fp s H => pf_nil) (fun cl C fp s H => (pe_tup (pa_cons (pv 0) (pa_cons (pe_ix (ix_listK (K := K) rfl) (pe_lst (pa_cons pe_str (pa_cons (pv 1) pa_nil))) (pe_callTy call_int1 (by rfl) T.t_int PyProof.Rows.boot_int (pa_cons (pe_cmpR op_eq (pv 1) pe_str (nomark _)) pa_nil)) (fun _ _ => rfl)) (pa_cons (pv 2) pa_nil))))))) qss_nil)
      (qss_cons (qs_if (pt_cmpR op_eq (pv 2) pe_str (nomark _)) (qss_one (qs_set (i := 1) scRow.nd rfl (Or.inl rfl) pe_str)) qss_nil)
      (qss_one (qs_ret (pe_tup (pa_cons (pv 2) (pa_cons (pv 1) (pa_cons (pcall A_law_address G_law_address hr4 (pa_cons (pcall A_law_sub G_law_sub hr1 (pa_cons (pv 0) (pa_cons pe_int pa_nil))) pa_nil)) (pa_cons (pcall A_law_label G_law_label hr3 (pa_cons (pcall A_law_sub G_law_sub hr1 (pa_cons (pv 0) (pa_cons pe_int pa_nil))) pa_nil)) (pa_cons (pv 3) pa_nil)))))))))))), ?_⟩
    have k1 := pick_ge c 10 (m := 6) (by decide)
    have k2 := pick_lt c 10 (m := 6) (by decide)
    refine ⟨by show 6 ≤ sizeLine; decide, fun p hp => ?_⟩
    refine ⟨_, rfl, c, 10, 6, rfl, by decide, by decide, by decide, fun H1 s1 => ⟨p, _, _, _, rfl, rfl, SqL.of (s1 _ _ upd_same), sort_pick k1 k2, ?_⟩⟩
    have hso : (pick c 10 6).toNat ≤ 5 := by omega
    generalize (pick c 10 6).toNat = so at hso
    refine ⟨_, rfl, c, rfl, fun l H2 ts hlf s2 hgt hts => ?_⟩
    have s02 : Same H H2 := (Same.new hp).trans (s1.trans s2)
    have hl0 : H l = none := ((Same.new hp).trans s1).free hlf
    by_cases h1 : so = 1
    · subst h1
      refine ⟨_, rfl, rfl, _, rfl, iteTb (sT 1) ?_⟩
      obtain ⟨xs, hl2, hxl, hxt⟩ := id hts
      have h6 := hgt.hi
      refine ⟨_, rfl, l, rfl, ⟨_, SqL.of hl2⟩, comp_listG (xs := xs) (fun τ => ∃ u v w, τ = [u, v, w]) (fun i v H' => ∃ t, ts[i]? = some t ∧ TmAt H' v (unc t)) (fun i v H' H'' ⟨t, et, tm⟩ s => ⟨t, et, tm.same s⟩) (Nat.le_trans (show xs.length ≤ 1000 by omega) big1000) (SqL.of hl2) ⟨_, _, _, rfl⟩ (fun i x τ H' Q' hx sm hS k' => ?_) (fun ys H3 s3 hyl hys lt hlt => ?_)⟩
      · obtain ⟨u, v, w, rfl⟩ := hS
        obtain ⟨t, et, tm⟩ := hxt i x hx
        obtain ⟨pp, y, rfl, hpp, hy⟩ := tm.same sm
        refine ⟨pp, _, rfl, SqT.of hpp, rfl, _, _, rfl, _, _, rfl, _, _, rfl, rfl, ?_⟩
        refine ⟨_, rfl, _, rfl, by show 2 ≤ sizeLine; decide, fun p2 hp2 => ⟨_, rfl, rfl, .inr ⟨_, rfl, p2, _, _, _, rfl, rfl, SqL.of upd_same, unc_kind t.th, _, rfl, by show 3 ≤ sizeLine; decide, fun p3 hp3 => ?_⟩⟩⟩
        exact k' _ _ _ ⟨_, _, _, rfl⟩ ((Same.new hp2).put hp3) ⟨t, et, p3, y, rfl, upd_same, hy.unc.same ((Same.new hp2).put hp3)⟩
      have s4 : Same H2 (upd H3 lt (.lst ys)) := s3.put hlt
      have ht4 : TmsAt (upd H3 lt (.lst ys)) lt (ts.map unc) := ⟨ys, upd_same, by rw [List.length_map, hyl, hxl], fun i v e => by
        obtain ⟨t, et, tm⟩ := hys i v e
        exact ⟨unc t, by rw [List.getElem?_map, et]; rfl, tm.same (Same.new hlt)⟩⟩
      have hlt0 : H lt = none := (s02.trans s3).free hlt
      generalize upd H3 lt (.lst ys) = H4 at s4 ht4
      refine ⟨_, rfl, rfl, _, rfl, iteFb (sF 1 5) ?_⟩
      refine ⟨_, rfl, _, rfl, _, rfl, c, 31, rfl, by decide, by decide, fun H5 s5 => ⟨_, rfl, fun ys hys H6 s6 => ⟨_, rfl, c, 35, rfl, by decide, by decide, fun H7 s7 => ⟨_, rfl, fun wz hwz H8 s8 => ⟨_, rfl, by show 5 ≤ sizeLine; decide, fun p2 hp2 => ?_⟩⟩⟩⟩⟩
      have s38 : Same H4 (upd H8 p2 (.tup [.str (sortW 1), .str z, .str (dotted ys), .str wz, .ref lt])) := (s5.trans (s6.trans (s7.trans s8))).put hp2
      exact q _ lt _ ⟨1, z, dotted ys, wz, ts.map unc⟩ ⟨by omega, fun _ => hz, fun k => by simp at k, ⟨ys, hys, rfl⟩, hwz, unc_goods hgt, fun _ => unc_no⟩ (fun _ => rfl) ((s02.trans s4).trans s38) hlt0 ⟨p2, rfl, upd_same, ht4.same s38⟩
    by_cases h5 : so = 5
    · subst h5
      refine ⟨_, rfl, rfl, _, rfl, iteFb (sF 5 1) ?_⟩
      refine ⟨_, rfl, rfl, _, rfl, iteTb (sT 5) ?_⟩
      refine ⟨_, rfl, _, rfl, _, rfl, c, 31, rfl, by decide, by decide, fun H5 s5 => ⟨_, rfl, fun ys hys H6 s6 => ⟨_, rfl, c, 35, rfl, by decide, by decide, fun H7 s7 => ⟨_, rfl, fun wz hwz H8 s8 => ⟨_, rfl, by show 5 ≤ sizeLine; decide, fun p2 hp2 => ?_⟩⟩⟩⟩⟩
      have s38 : Same H2 (upd H8 p2 (.tup [.str (sortW 5), .str "", .str (dotted ys), .str wz, .ref l])) := (s5.trans (s6.trans (s7.trans s8))).put hp2
      exact q _ l _ ⟨5, "", dotted ys, wz, ts⟩ ⟨by omega, fun k => by simp at k, fun _ => rfl, ⟨ys, hys, rfl⟩, hwz, hgt, fun k => by simp at k⟩ (fun k => absurd k (Nat.lt_irrefl 5)) (s02.trans s38) hl0 ⟨p2, rfl, upd_same, hts.same s38⟩
    · refine ⟨_, rfl, rfl, _, rfl, iteFb (sF so 1 (by unfold kitv; rw [decide_eq_false h1]; rfl) hso) ?_⟩
      refine ⟨_, rfl, rfl, _, rfl, iteFb (sF so 5 (by unfold kitv; rw [decide_eq_false h5]; rfl) hso) ?_⟩
      refine ⟨_, rfl, _, rfl, _, rfl, c, 31, rfl, by decide, by decide, fun H5 s5 => ⟨_, rfl, fun ys hys H6 s6 => ⟨_, rfl, c, 35, rfl, by decide, by decide, fun H7 s7 => ⟨_, rfl, fun wz hwz H8 s8 => ⟨_, rfl, by show 5 ≤ sizeLine; decide, fun p2 hp2 => ?_⟩⟩⟩⟩⟩
      have s38 : Same H2 (upd H8 p2 (.tup [.str (sortW so), .str z, .str (dotted ys), .str wz, .ref l])) := (s5.trans (s6.trans (s7.trans s8))).put hp2
      exact q _ l _ ⟨so, z, dotted ys, wz, ts⟩ ⟨by omega, fun _ => hz, fun k => absurd k h5, ⟨ys, hys, rfl⟩, hwz, hgt, fun k => absurd k h1⟩ (fun _ => rfl) (s02.trans s38) hl0 ⟨p2, rfl, upd_same, hts.same s38⟩

theorem ok_law_said {C : Nat → Addr} (T : Tx K mg C) {f : Addr} {fd : FuncData} (F : Fun K "_law_said" "_law_said" s_law_said f fd) : FnOk P w K mg base CX0 3 f fd psSaid spSaid := by
  obtain ⟨f_law_text, fd_law_text, A_law_text⟩ := T.a_law_text
  have G_law_text : FnOk P w K mg base CX0 2 f_law_text fd_law_text psText spText := ok_law_text T A_law_text.F
  refine F.ok scSaid (fun vs H Q E h => ?_) (fun cdv A outer s H vs Q E hr h => ?_)
  · obtain ⟨v, lt, r, rfl, _⟩ := h
    rfl
  · obtain ⟨v, lt, r, rfl, rt, hg, q⟩ := h
    have hr2 : Room 2 _ := hr
    refine ⟨_, QSs.h (qss_cons (qs_asg (pv 0) (pg_tupK (K := K) (n := 5) rfl rfl (pgs_cons (pg_name (i := 1) scSaid.nd rfl (Or.inl rfl)) (pgs_cons (pg_name (i := 2) scSaid.nd rfl (Or.inl rfl)) (pgs_cons (pg_name (i := 3) scSaid.nd rfl (Or.inl rfl)) (pgs_cons (pg_name (i := 4) scSaid.nd rfl (Or.inl rfl)) (pgs_cons (pg_name (i := 5) scSaid.nd rfl (Or.inl rfl)) pgs_nil)))))))
      (qss_cons (qs_if (PW.pt (pw_or (pt_cmpR op_eq (pv 1) pe_str (nomark _)) (pw_or1 (pt_cmpR op_eq (pv 1) pe_str (nomark _))))) (qss_one (qs_ret (pe_op op_add_str (pe_op op_add_str (pe_op op_add_str (pe_op op_add_str (pv 1) pe_str) (pv 3)) pe_str) (pv 2)))) qss_nil)
      (qss_cons (qs_if (pt_cmpR op_eq (pv 1) pe_str (nomark _)) (qss_one (qs_ret (pe_op op_add_str (pe_op op_add_str (pe_op op_add_str (pe_op op_add_str (pe_op op_add_str pe_str (pv 4)) pe_str) (pv 3)) pe_str) (pv 2)))) qss_nil)
      (qss_cons (qs_if (pt_cmpR op_eq (pv 1) pe_str (nomark _)) (qss_one (qs_ret (pe_op op_add_str pe_str (pcall A_law_text G_law_text hr2 (pa_cons (pv 5) pa_nil))))) qss_nil)
      (qss_one (qs_ret (pe_op op_add_str (pe_op op_add_str (pe_op op_add_str (pe_op op_add_str (pv 1) pe_str) (pv 2)) pe_str) (pcall A_law_text G_law_text hr2 (pa_cons (pv 5) pa_nil))))))))), ?_⟩
    obtain ⟨p, rfl, hp, htt⟩ := id rt
    obtain ⟨so, nn, aa, ww, tt⟩ := r
    have h5 : so ≤ 5 := hg.so
    have e1 : nn.length ≤ 8 := hg.nl
    have e2 : aa.length ≤ 36 := hg.al
    have e3 : (textOf tt).length ≤ 480 := hg.tl
    have e4 : ww.length ≤ 8 := hg.wd.hi
    have gts : GoodTs tt := hg.ts
    refine ⟨_, rfl, p, _, rfl, SqT.of hp, rfl, _, _, rfl, _, _, rfl, _, _, rfl, _, _, rfl, _, _, rfl, rfl, ?_⟩
    rcases six h5 with rfl | rfl | rfl | rfl | rfl | rfl
    · have e : saidOf ⟨0, nn, aa, ww, tt⟩ = sortW 0 ++ " " ++ nn ++ " be " ++ textOf tt := by rw [said0 rfl]; show _ = ("let" : Str) ++ " " ++ nn ++ " be " ++ textOf tt; rw [j_let]
      rw [e] at q
      refine ⟨_, rfl, rfl, _, rfl, iteFb (sF 0 2) ⟨_, rfl, rfl, _, rfl, iteFb (sF 0 3) ⟨_, rfl, rfl, _, rfl, iteFb (sF 0 4) ⟨_, rfl, rfl, _, rfl, iteFb (sF 0 5) ?_⟩⟩⟩⟩
      exact ⟨_, rfl, _, _, rfl, rfl, abS (Nat.le_of_eq lw_let) (Nat.le_of_eq len_sp), _, rfl, _, _, rfl, rfl, abS (alS (Nat.le_of_eq lw_let) (Nat.le_of_eq len_sp)) e1, _, _, rfl, rfl, abS (alS (alS (Nat.le_of_eq lw_let) (Nat.le_of_eq len_sp)) e1) (Nat.le_of_eq len_be), _, rfl, lt, tt, rfl, htt, gts, fun H' s' => ⟨_, _, rfl, rfl, abS (alS (alS (alS (Nat.le_of_eq lw_let) (Nat.le_of_eq len_sp)) e1) (Nat.le_of_eq len_be)) e3, q H' s'⟩⟩
    · have e : saidOf ⟨1, nn, aa, ww, tt⟩ = sortW 1 ++ " " ++ nn ++ " be " ++ textOf tt := by rw [said1 rfl]; show _ = ("deed" : Str) ++ " " ++ nn ++ " be " ++ textOf tt; rw [j_deed]
      rw [e] at q
      refine ⟨_, rfl, rfl, _, rfl, iteFb (sF 1 2) ⟨_, rfl, rfl, _, rfl, iteFb (sF 1 3) ⟨_, rfl, rfl, _, rfl, iteFb (sF 1 4) ⟨_, rfl, rfl, _, rfl, iteFb (sF 1 5) ?_⟩⟩⟩⟩
      exact ⟨_, rfl, _, _, rfl, rfl, abS (Nat.le_of_eq lw_deed) (Nat.le_of_eq len_sp), _, rfl, _, _, rfl, rfl, abS (alS (Nat.le_of_eq lw_deed) (Nat.le_of_eq len_sp)) e1, _, _, rfl, rfl, abS (alS (alS (Nat.le_of_eq lw_deed) (Nat.le_of_eq len_sp)) e1) (Nat.le_of_eq len_be), _, rfl, lt, tt, rfl, htt, gts, fun H' s' => ⟨_, _, rfl, rfl, abS (alS (alS (alS (Nat.le_of_eq lw_deed) (Nat.le_of_eq len_sp)) e1) (Nat.le_of_eq len_be)) e3, q H' s'⟩⟩
    · have e : saidOf ⟨2, nn, aa, ww, tt⟩ = sortW 2 ++ " " ++ aa ++ " as " ++ nn := by rw [said2 rfl]; show _ = ("draw" : Str) ++ " " ++ aa ++ " as " ++ nn; rw [j_draw]
      rw [e] at q
      refine ⟨_, rfl, rfl, _, rfl, iteTb (sT 2) (iteT ?_)⟩
      exact ⟨_, rfl, _, _, rfl, rfl, abS (Nat.le_of_eq lw_draw) (Nat.le_of_eq len_sp), _, rfl, _, _, rfl, rfl, abS (alS (Nat.le_of_eq lw_draw) (Nat.le_of_eq len_sp)) e2, _, _, rfl, rfl, abS (alS (alS (Nat.le_of_eq lw_draw) (Nat.le_of_eq len_sp)) e2) (Nat.le_of_eq len_as), _, rfl, _, _, rfl, rfl, abS (alS (alS (alS (Nat.le_of_eq lw_draw) (Nat.le_of_eq len_sp)) e2) (Nat.le_of_eq len_as)) e1, q H (Same.refl H)⟩
    · have e : saidOf ⟨3, nn, aa, ww, tt⟩ = sortW 3 ++ " " ++ aa ++ " as " ++ nn := by rw [said3 rfl]; show _ = ("late" : Str) ++ " " ++ aa ++ " as " ++ nn; rw [j_late]
      rw [e] at q
      refine ⟨_, rfl, rfl, _, rfl, iteFb (sF 3 2) ⟨_, rfl, rfl, _, rfl, iteTb (sT 3) ?_⟩⟩
      exact ⟨_, rfl, _, _, rfl, rfl, abS (Nat.le_of_eq lw_late) (Nat.le_of_eq len_sp), _, rfl, _, _, rfl, rfl, abS (alS (Nat.le_of_eq lw_late) (Nat.le_of_eq len_sp)) e2, _, _, rfl, rfl, abS (alS (alS (Nat.le_of_eq lw_late) (Nat.le_of_eq len_sp)) e2) (Nat.le_of_eq len_as), _, rfl, _, _, rfl, rfl, abS (alS (alS (alS (Nat.le_of_eq lw_late) (Nat.le_of_eq len_sp)) e2) (Nat.le_of_eq len_as)) e1, q H (Same.refl H)⟩
    · rw [said4 (r := ⟨4, nn, aa, ww, tt⟩) rfl] at q
      refine ⟨_, rfl, rfl, _, rfl, iteFb (sF 4 2) ⟨_, rfl, rfl, _, rfl, iteFb (sF 4 3) ⟨_, rfl, rfl, _, rfl, iteTb (sT 4) ?_⟩⟩⟩
      exact ⟨_, rfl, _, _, rfl, rfl, abS (Nat.le_of_eq len_take) e4, _, _, rfl, rfl, abS (alS (Nat.le_of_eq len_take) e4) (Nat.le_of_eq len_from), _, rfl, _, _, rfl, rfl, abS (alS (alS (Nat.le_of_eq len_take) e4) (Nat.le_of_eq len_from)) e2, _, _, rfl, rfl, abS (alS (alS (alS (Nat.le_of_eq len_take) e4) (Nat.le_of_eq len_from)) e2) (Nat.le_of_eq len_as), _, rfl, _, _, rfl, rfl, abS (alS (alS (alS (alS (Nat.le_of_eq len_take) e4) (Nat.le_of_eq len_from)) e2) (Nat.le_of_eq len_as)) e1, q H (Same.refl H)⟩
    · rw [said5 (r := ⟨5, nn, aa, ww, tt⟩) rfl] at q
      refine ⟨_, rfl, rfl, _, rfl, iteFb (sF 5 2) ⟨_, rfl, rfl, _, rfl, iteFb (sF 5 3) ⟨_, rfl, rfl, _, rfl, iteFb (sF 5 4) ⟨_, rfl, rfl, _, rfl, iteTb (sT 5) ?_⟩⟩⟩⟩
      exact ⟨_, rfl, lt, tt, rfl, htt, gts, fun H' s' => ⟨_, _, rfl, rfl, abS (Nat.le_of_eq len_need) e3, q H' s'⟩⟩

theorem ok_law_whole {C : Nat → Addr} (T : Tx K mg C) {f : Addr} {fd : FuncData} (F : Fun K "_law_whole" "_law_whole" s_law_whole f fd) : FnOk P w K mg base CX0 1 f fd psWhole spWh := by
  refine F.ok scWhole (fun vs H Q E h => ?_) (fun cdv A outer s H vs Q E hr h => ?_)
  · obtain ⟨i, rfl, _⟩ := h
    rfl
  · obtain ⟨i, rfl, q⟩ := h
    refine ⟨_, QSs.h (qss_one (qs_ret (pe_and (pe_callB call_inst (by rfl) T.inst PyProof.Rows.boot_isinstance (pa_cons (pv 0) (pa_cons (pe_bltn (v := .ty "int") (by rfl) T.t_int PyProof.Rows.boot_int rfl) pa_nil))) (pe_one (pe_not (pe_callB call_inst (by rfl) T.inst PyProof.Rows.boot_isinstance (pa_cons (pv 0) (pa_cons (pe_bltn (v := .ty "bool") (by rfl) T.t_bool PyProof.Rows.boot_bool rfl) pa_nil)))))))), ?_⟩
    exact ⟨_, rfl, _, _, _, _, rfl, .int _, kit_same, _, rfl, iteT ⟨_, rfl, _, _, _, false, rfl, .int _, kit_ty (by decide +kernel) (by decide +kernel) (by decide +kernel), _, rfl, q H (Same.refl H)⟩⟩

theorem ok_law_term_is {C : Nat → Addr} (T : Tx K mg C) {f : Addr} {fd : FuncData} (F : Fun K "_law_term_is" "_law_term_is" s_law_term_is f fd) : FnOk P w K mg base CX0 2 f fd psTermIs spTermIs := by
  obtain ⟨f_law_whole, fd_law_whole, A_law_whole⟩ := T.a_law_whole
  have G_law_whole : FnOk P w K mg base CX0 1 f_law_whole fd_law_whole psWhole spWh := ok_law_whole T A_law_whole.F
  refine F.ok scTermIs (fun vs H Q E h => ?_) (fun cdv A outer s H vs Q E hr h => ?_)
  · obtain ⟨x, y, t, rfl, _⟩ := h
    rfl
  · obtain ⟨x, y, t, rfl, t1, t2, q⟩ := h
    have hr1 : Room 1 _ := hr
    refine ⟨_, QSs.h (qss_cons (qs_if (PW.pt (pw_or (pt_not (pt_val (pe_callB call_inst (by rfl) T.inst PyProof.Rows.boot_isinstance (pa_cons (pv 0) (pa_cons (pe_bltn (v := .ty "tuple") (by rfl) T.t_tuple PyProof.Rows.boot_tuple rfl) pa_nil))))) (pw_or (pt_cmpR op_ne (pe_callB call_len_seq (by rfl) T.len PySem.boot_len (pa_cons (pv 0) pa_nil)) pe_int (nomark _)) (pw_or (pt_not (pt_val (pcall A_law_whole G_law_whole hr1 (pa_cons (pe_ix ix_tup (pv 0) pe_int (fun _ _ => rfl)) pa_nil)))) (pw_or1 (pt_not (pt_val (pe_callB call_inst (by rfl) T.inst PyProof.Rows.boot_isinstance (pa_cons (pe_ix ix_tup (pv 0) pe_int (fun _ _ => rfl)) (pa_cons (pe_bltn (v := .ty "str") (by rfl) T.t_str PyProof.Rows.boot_str rfl) pa_nil)))))))))) (qss_one (qs_ret pe_bl)) qss_nil)
      (qss_cons (qs_if (pt_cmpR op_eq (pe_ix ix_tup (pv 1) pe_int (fun _ _ => rfl)) pe_str (nomark _)) (qss_one (qs_ret (pe_and (pcall A_law_whole G_law_whole hr1 (pa_cons (pe_ix ix_tup (pv 0) pe_int (fun _ _ => rfl)) pa_nil)) (pe_one (pe_cmpR (op_eqD (K := K) rfl hr.units) (pv 0) (pv 1) (nomark _)))))) qss_nil)
      (qss_one (qs_ret (pe_and (pe_callB call_inst (by rfl) T.inst PyProof.Rows.boot_isinstance (pa_cons (pe_ix ix_tup (pv 0) pe_int (fun _ _ => rfl)) (pa_cons (pe_bltn (v := .ty "tuple") (by rfl) T.t_tuple PyProof.Rows.boot_tuple rfl) pa_nil))) (pe_one (pe_cmpR (op_eqD (K := K) rfl hr.units) (pv 0) (pv 1) (nomark _)))))))), ?_⟩
    obtain ⟨p, a, rfl, hp, ha⟩ := t1
    obtain ⟨r, b, rfl, hr', hb⟩ := t2
    refine ⟨_, rfl, _, _, _, _, rfl, .tup hp, kit_same, _, rfl, iteF ?_⟩
    refine ⟨_, rfl, p, _, rfl, .inr (SqT.of hp), rfl, _, rfl, iteNe rfl ?_⟩
    refine ⟨_, rfl, p, _, _, V.int t.sg, rfl, rfl, SqT.of hp, rfl, t.sg, rfl, fun H1 s1 => ⟨_, rfl, iteF ?_⟩⟩
    refine ⟨_, rfl, p, _, _, V.str (kindOf t.th), rfl, rfl, SqT.of (s1 _ _ hp), rfl, _, _, _, _, rfl, .str _, kit_same, _, rfl, iteF ?_⟩
    refine ⟨_, rfl, r, _, _, V.str (kindOf t.th), rfl, rfl, SqT.of (s1 _ _ hr'), rfl, rfl, _, rfl, ?_⟩
    show if decide (V.str (kindOf t.th) = V.str "number") = true then _ else _
    have d1 : DSq K H1 p r := TmAt.dsq (s1 _ _ hp) (s1 _ _ hr') (ha.same s1) (hb.same s1)
    cases hth : t.th with
    | num m =>
      rw [hth] at ha
      cases ha
      refine iteTb (decide_eq_true (show V.str (kindOf (.num m)) = V.str "number" from rfl)) ⟨_, rfl, p, _, _, V.int ((m : Nat) : Int), rfl, rfl, SqT.of (s1 _ _ hp), rfl, _, rfl, fun H2 s2 => ⟨_, rfl, iteT ?_⟩⟩
      refine ⟨_, rfl, _, rfl, p, r, rfl, rfl, ?_, q H2 (s1.trans s2)⟩
      exact TmAt.dsq (s2 _ _ (s1 _ _ hp)) (s2 _ _ (s1 _ _ hr')) (by rw [hth]; rfl) (hb.same (s1.trans s2))
    | nms c ys =>
      have hkn : ¬ V.str (kindOf (.nms c ys)) = V.str "number" := by
        cases c
        · show ¬ V.str "path" = V.str "number"; decide +kernel
        · show ¬ V.str "call" = V.str "number"; decide +kernel
      have ha' := ha
      rw [hth] at ha'
      obtain ⟨k, rfl, hk⟩ := ha'
      refine iteFb (decide_eq_false hkn) ⟨_, rfl, p, _, _, V.ref k, rfl, rfl, SqT.of (s1 _ _ hp), rfl, _, _, _, _, rfl, .tup (s1 _ _ hk), kit_same, _, rfl, iteT ?_⟩
      exact ⟨_, rfl, _, rfl, p, r, rfl, rfl, d1, q H1 s1⟩

theorem ok_law_terms_are {C : Nat → Addr} (T : Tx K mg C) {f : Addr} {fd : FuncData} (F : Fun K "_law_terms_are" "_law_terms_are" s_law_terms_are f fd) : FnOk P w K mg base CX0 3 f fd psTermsAre spTermsAre := by
  obtain ⟨f_law_term_is, fd_law_term_is, A_law_term_is⟩ := T.a_law_term_is
  have G_law_term_is : FnOk P w K mg base CX0 2 f_law_term_is fd_law_term_is psTermIs spTermIs := ok_law_term_is T A_law_term_is.F
  refine F.ok scTermsAre (fun vs H Q E h => ?_) (fun cdv A outer s H vs Q E hr h => ?_)
  · obtain ⟨l, r, ts, rfl, _⟩ := h
    rfl
  · obtain ⟨l, r, ts, rfl, ⟨xs, hl, hxl, hx⟩, ⟨ys, hr', hyl, hy⟩, h10, q⟩ := h
    have hr2 : Room 2 _ := hr
    refine ⟨_, QSs.h (qss_cons (qs_if (PW.pt (pw_or (pt_not (pt_val (pe_callB call_inst (by rfl) T.inst PyProof.Rows.boot_isinstance (pa_cons (pv 0) (pa_cons (pe_bltn (v := .ty "list") (by rfl) T.t_list PyProof.Rows.boot_list rfl) pa_nil))))) (pw_or1 (pt_cmpR op_ne (pe_callB call_len_seq (by rfl) T.len PySem.boot_len (pa_cons (pv 0) pa_nil)) (pe_callB call_len_seq (by rfl) T.len PySem.boot_len (pa_cons (pv 1) pa_nil)) (nomark _))))) (qss_one (qs_ret pe_bl)) qss_nil)
      (qss_one (qs_ret (pe_callB (call_all rfl) (by rfl) T.all PyProof.Rows.boot_all (pa_cons (pe_comp (N := ["_law_one", "_law_other"]) [none, none] rfl (by kernel_rfl) (pi_zip2K (K := K) rfl (by rfl) T.zip (pa_cons (pv 0) (pa_cons (pv 1) pa_nil))) (fun cl C fp s H => (pg_tupK (K := K) (n := 2) rfl rfl (pgs_cons (pg_name (i := 0) (by decide +kernel : (["_law_one", "_law_other"] : List Str).Nodup) rfl (Or.inl rfl)) (pgs_cons (pg_name (i := 1) (by decide +kernel : (["_law_one", "_law_other"] : List Str).Nodup) rfl (Or.inl rfl)) pgs_nil)))) (fun cl C fp s H => pf_nil) (fun cl C fp s H => (pcall A_law_term_is G_law_term_is hr2 (pa_cons (pv 0) (pa_cons (pv 1) pa_nil))))) pa_nil))))), ?_⟩
    refine ⟨_, rfl, _, _, _, _, rfl, .lst hl, kit_same, _, rfl, iteF ?_⟩
    refine ⟨_, rfl, l, _, rfl, .inl (SqL.of hl), _, rfl, r, _, rfl, .inl (SqL.of hr'), rfl, _, rfl, iteNe (by rw [hxl, hyl]) ?_⟩
    refine ⟨_, rfl, _, rfl, l, r, rfl, ⟨_, SqL.of hl⟩, ⟨_, SqL.of hr'⟩, ?_⟩
    refine comp_zip (xs := xs) (ys := ys) (fun _ => V.bl true) (Nat.le_trans (show xs.length ≤ 1000 by omega) big1000) (by omega) (SqL.of hl) (SqL.of hr') (fun i x y H' Q' ex ey sm k' => ?_) (fun H' sm p hp => ?_)
    · obtain ⟨t, et, tm⟩ := hx i x ex
      obtain ⟨t', et', tm'⟩ := hy i y ey
      rw [et] at et'; cases et'
      exact ⟨_, rfl, _, rfl, x, y, t, rfl, tm.same sm, tm'.same sm, k'⟩
    · refine ⟨p, (List.range xs.length).map fun _ => true, rfl, SqL.of (by rw [upd_same, List.map_map]; rfl), ?_⟩
      have e : ((List.range xs.length).map fun _ => true).all id = true := by simp
      have q2 : Pur (.bl (((List.range xs.length).map fun _ => true).all id)) H Q := by rw [e]; exact q
      exact q2 _ (sm.put hp)

theorem ok_law_says {C : Nat → Addr} (T : Tx K mg C) {f : Addr} {fd : FuncData} (F : Fun K "_law_says" "_law_says" s_law_says f fd) : FnOk P w K mg base CX0 4 f fd psSays (spIs C) := by
  obtain ⟨f_law_said, fd_law_said, A_law_said⟩ := T.a_law_said
  have G_law_said : FnOk P w K mg base CX0 3 f_law_said fd_law_said psSaid spSaid := ok_law_said T A_law_said.F
  refine F.ok scSays (fun vs H Q E h => ?_) (fun cdv A outer s H vs Q E hr h => ?_)
  · obtain ⟨a, l, v, lt, r, rfl, _⟩ := h
    rfl
  · obtain ⟨a, l, v, lt, r, rfl, ra, rt, hg, q⟩ := h
    have hr3 : Room 3 _ := hr
    refine ⟨_, QSs.h (qss_cons (qs_set (i := 2) scSays.nd rfl (Or.inl rfl) (pe_op op_rep (pe_lst (pa_cons (pe_ix ix_tup (pv 1) pe_int (fun _ _ => rfl)) pa_nil)) (pe_callTy call_int1 (by rfl) T.t_int PyProof.Rows.boot_int (pa_cons (pe_cmpR op_in_seq (pe_ix ix_tup (pv 1) pe_int (fun _ _ => rfl)) (pe_tup (pa_cons pe_str (pa_cons pe_str (pa_cons pe_str pa_nil)))) (by rfl)) pa_nil))))
      (qss_cons (qs_set (i := 3) scSays.nd rfl (Or.inl rfl) (pe_methV (P := P) (w := w) (K := K) (mg := mg) (base := base) rfl rfl rfl rfl rfl hr3 (pv 0)))
      (qss_cons (qs_set (i := 4) scSays.nd rfl (Or.inl rfl) (pe_methV (P := P) (w := w) (K := K) (mg := mg) (base := base) rfl rfl rfl rfl rfl hr3 (pv 0)))
      (qss_cons (qs_set (i := 5) scSays.nd rfl (Or.inl rfl) (pe_methV (P := P) (w := w) (K := K) (mg := mg) (base := base) rfl rfl rfl rfl rfl hr3 (pv 0)))
      (qss_cons (qs_if (PW.pt (pw_or (pt_not (pt_val (pe_callB call_inst (by rfl) T.inst PyProof.Rows.boot_isinstance (pa_cons (pv 3) (pa_cons (pe_bltn (v := .ty "str") (by rfl) T.t_str PyProof.Rows.boot_str rfl) pa_nil))))) (pw_or (pt_cmpR op_ne (pv 3) (pe_ix ix_tup (pv 1) pe_int (fun _ _ => rfl)) (nomark _)) (pw_or (pt_not (pt_val (pe_callB call_inst (by rfl) T.inst PyProof.Rows.boot_isinstance (pa_cons (pv 4) (pa_cons (pe_bltn (v := .ty "list") (by rfl) T.t_list PyProof.Rows.boot_list rfl) pa_nil))))) (pw_or1 (pt_cmpR (op_neD (K := K) rfl hr.units) (pv 4) (pv 2) (nomark _))))))) (qss_one (qs_ret pe_bl)) qss_nil)
      (qss_cons (qs_expr (pe_bm PySem.F.plainAttrs_list PySem.F.slot_list_append PySem.F.type_list_append mt_append (pv 4) (pa_cons pe_str pa_nil)))
      (qss_one (qs_ret (pe_and (pe_callB call_inst (by rfl) T.inst PyProof.Rows.boot_isinstance (pa_cons (pv 5) (pa_cons (pe_bltn (v := .ty "str") (by rfl) T.t_str PyProof.Rows.boot_str rfl) pa_nil))) (pe_and (pe_cmpR op_eq (pv 5) (pcall A_law_said G_law_said hr3 (pa_cons (pv 1) pa_nil)) (nomark _)) (pe_one (pe_cmpR (op_eqD (K := K) rfl hr.units) (pe_methV (P := P) (w := w) (K := K) (mg := mg) (base := base) rfl rfl rfl rfl rfl hr3 (pv 0)) (pv 2) (nomark _))))))))))))), ?_⟩
    obtain ⟨p, rfl, hp, htt⟩ := id rt
    have h5 := hg.so
    refine ⟨_, rfl, p, _, _, V.str r.ad, rfl, rfl, SqT.of hp, rfl, by show 1 ≤ sizeLine; decide, fun d0 hd0 => ?_⟩
    refine ⟨_, rfl, p, _, _, V.str (sortW r.so), rfl, rfl, SqT.of ((Same.new hd0) _ _ hp), rfl, by show 3 ≤ sizeLine; decide, fun t0 ht0 => ?_⟩
    refine ⟨t0, _, rfl, .inr (SqT.of upd_same), rfl, rfl, .inr ⟨_, rfl, d0, _, _, rfl, rfl, (Same.new ht0) _ _ upd_same, rep_lo _, rep_hi _, rep_bound _, fun d hd => ?_⟩⟩
    refine ⟨_, rfl, rdB T (ra.same (((Same.new hd0).put ht0).put hd)) hg fun H2 s2 => ?_⟩
    have s02 : Same H H2 := (((Same.new hd0).put ht0).put hd).trans s2
    have hdd : H2 d = some (.lst ((askedOf r).map V.str)) := (s2 _ _ upd_same).trans (congrArg (fun z => some (HO.lst z)) (due_eq h5 rfl))
    refine ⟨_, rfl, rdA T (ra.same s02) hg fun b H3 hb s3 hbl => ?_⟩
    refine ⟨_, rfl, rdS T (ra.same (s02.trans s3)) hg fun H4 s4 => ?_⟩
    have s04 : Same H H4 := s02.trans (s3.trans s4)
    have hb4 := s4 _ _ hbl
    have hd4 := s4 _ _ (s3 _ _ hdd)
    refine ⟨_, rfl, _, _, _, _, rfl, .str _, kit_same, _, rfl, iteF ?_⟩
    refine ⟨_, rfl, _, rfl, p, _, _, V.str r.nm, rfl, rfl, SqT.of (s04 _ _ hp), rfl, rfl, _, rfl, iteNe rfl ?_⟩
    refine ⟨_, rfl, _, _, _, _, rfl, .lst hb4, kit_same, _, rfl, iteF ?_⟩
    refine ⟨_, rfl, _, rfl, b, d, rfl, rfl, dsq_strs hb4 hd4, _, rfl, iteF ?_⟩
    refine ⟨_, rfl, .inl ⟨rfl, _, SqL.of hb4⟩, b, _, _, rfl, rfl, hb4, Nat.lt_of_lt_of_le (show ((askedOf r).map V.str).length < 1000 by rw [List.length_map]; unfold askedOf; split <;> simp) big1000, ?_⟩
    have s25 : Same H2 (upd H4 b (.lst ((askedOf r).map V.str ++ [V.str "a"]))) := (s3.trans s4).over hb
    generalize upd H4 b (.lst ((askedOf r).map V.str ++ [V.str "a"])) = H5 at s25
    have s05 : Same H H5 := s02.trans s25
    refine ⟨_, rfl, _, _, _, _, rfl, .str _, kit_same, _, rfl, iteT ?_⟩
    refine ⟨_, rfl, _, rfl, _, lt, r, rfl, rt.same s05, hg, fun H6 s6 => ⟨rfl, _, rfl, iteTb (decide_eq_true rfl) ?_⟩⟩
    exact ⟨_, rfl, rdA T (ra.same (s05.trans s6)) hg fun b2 H7 hb2 s7 hb2l => ⟨_, rfl, b2, d, rfl, rfl, dsq_strs hb2l (s7 _ _ (s6 _ _ (s25 _ _ hdd))), q H7 (s05.trans (s6.trans s7))⟩⟩

theorem ok_law_is {C : Nat → Addr} (T : Tx K mg C) {f : Addr} {fd : FuncData} (F : Fun K "_law_is" "_law_is" s_law_is f fd) : FnOk P w K mg base CX0 5 f fd psIs (spIs C) := by
  obtain ⟨f_law_terms_are, fd_law_terms_are, A_law_terms_are⟩ := T.a_law_terms_are
  have G_law_terms_are : FnOk P w K mg base CX0 3 f_law_terms_are fd_law_terms_are psTermsAre spTermsAre := ok_law_terms_are T A_law_terms_are.F
  obtain ⟨f_law_says, fd_law_says, A_law_says⟩ := T.a_law_says
  have G_law_says : FnOk P w K mg base CX0 4 f_law_says fd_law_says psSays (spIs C) := ok_law_says T A_law_says.F
  refine F.ok scIs (fun vs H Q E h => ?_) (fun cdv A outer s H vs Q E hr h => ?_)
  · obtain ⟨a, l, v, lt, r, rfl, _⟩ := h
    rfl
  · obtain ⟨a, l, v, lt, r, rfl, ra, rt, hg, q⟩ := h
    have hr3 : Room 3 _ := hr.mono (by decide)
    have hr4 : Room 4 _ := hr
    refine ⟨_, QSs.h (qss_cons (qs_asg (pv 1) (pg_tupK (K := K) (n := 5) rfl rfl (pgs_cons (pg_name (i := 2) scIs.nd rfl (Or.inr rfl)) (pgs_cons (pg_name (i := 3) scIs.nd rfl (Or.inl rfl)) (pgs_cons (pg_name (i := 4) scIs.nd rfl (Or.inl rfl)) (pgs_cons (pg_name (i := 5) scIs.nd rfl (Or.inl rfl)) (pgs_cons (pg_name (i := 6) scIs.nd rfl (Or.inl rfl)) pgs_nil)))))))
      (qss_cons (qs_set (i := 7) scIs.nd rfl (Or.inl rfl) (pe_lst (pa_cons (pe_callB call_instC (by rfl) T.inst PyProof.Rows.boot_isinstance (pa_cons (pv 0) (pa_cons (pglR T.c_Let) pa_nil))) (pa_cons (pe_callB call_instC (by rfl) T.inst PyProof.Rows.boot_isinstance (pa_cons (pv 0) (pa_cons (pglR T.c_Deed) pa_nil))) (pa_cons (pe_callB call_instC (by rfl) T.inst PyProof.Rows.boot_isinstance (pa_cons (pv 0) (pa_cons (pglR T.c_Draw) pa_nil))) (pa_cons (pe_callB call_instC (by rfl) T.inst PyProof.Rows.boot_isinstance (pa_cons (pv 0) (pa_cons (pglR T.c_Late) pa_nil))) pa_nil))))))
      (qss_cons (qs_set (i := 7) scIs.nd rfl (Or.inl rfl) (pe_op op_cat (pv 7) (pe_lst (pa_cons (pe_callB call_instC (by rfl) T.inst PyProof.Rows.boot_isinstance (pa_cons (pv 0) (pa_cons (pglR T.c_Take) pa_nil))) (pa_cons (pe_callB call_instC (by rfl) T.inst PyProof.Rows.boot_isinstance (pa_cons (pv 0) (pa_cons (pglR T.c_Need) pa_nil))) pa_nil)))))
      (qss_cons (qs_comp (N := ["_law_one", "_law_sort"]) [none, some 2] (i := 8) scIs.nd rfl (Or.inl rfl) rfl (by kernel_rfl) (pi_tup (pe_tup (pa_cons pe_str (pa_cons pe_str (pa_cons pe_str (pa_cons pe_str (pa_cons pe_str (pa_cons pe_str pa_nil)))))))) (fun cl C fp s H => (pg_name (i := 0) (by decide +kernel : (["_law_one", "_law_sort"] : List Str).Nodup) rfl (Or.inl rfl))) (fun cl C fp s H => pf_nil) (fun cl C fp s H => (pe_cmpR op_eq (pv 1) (pv 0) (nomark _))))
      (qss_cons (qs_if (PW.pt (pw_or (pt_not (pt_val (pe_callB call_instC (by rfl) T.inst PyProof.Rows.boot_isinstance (pa_cons (pv 0) (pa_cons (pglR T.c_Row) pa_nil))))) (pw_or (pt_cmpR (op_neD (K := K) rfl hr.units) (pv 7) (pv 8) (nomark _)) (pw_or1 (pt_not (pt_val (pcall A_law_says G_law_says hr4 (pa_cons (pv 0) (pa_cons (pv 1) pa_nil))))))))) (qss_one (qs_ret pe_bl)) qss_nil)
      (qss_cons (qs_if (PW.pt (pw_and (pt_cmpR op_ne (pv 2) pe_str (nomark _)) (pw_and1 (PW.pt (pw_or (pt_not (pt_val (pe_callB call_inst (by rfl) T.inst PyProof.Rows.boot_isinstance (pa_cons (pe_fld (pv 0) rfl) (pa_cons (pe_bltn (v := .ty "str") (by rfl) T.t_str PyProof.Rows.boot_str rfl) pa_nil))))) (pw_or1 (pt_cmpR op_ne (pe_fld (pv 0) rfl) (pv 3) (nomark _)))))))) (qss_one (qs_ret pe_bl)) qss_nil)
      (qss_cons (qs_if (PW.pt (pw_and (pt_cmpR op_eq (pv 2) pe_str (nomark _)) (pw_and1 (PW.pt (pw_or (pt_not (pt_val (pe_callB call_inst (by rfl) T.inst PyProof.Rows.boot_isinstance (pa_cons (pe_fld (pv 0) rfl) (pa_cons (pe_bltn (v := .ty "str") (by rfl) T.t_str PyProof.Rows.boot_str rfl) pa_nil))))) (pw_or1 (pt_cmpR op_ne (pe_fld (pv 0) rfl) (pv 5) (nomark _)))))))) (qss_one (qs_ret pe_bl)) qss_nil)
      (qss_cons (qs_if (pt_cmpR op_in_seq (pv 2) (pe_tup (pa_cons pe_str (pa_cons pe_str (pa_cons pe_str pa_nil)))) (by rfl)) (qss_one (qs_ret (pe_and (pe_callB call_inst (by rfl) T.inst PyProof.Rows.boot_isinstance (pa_cons (pe_fld (pv 0) rfl) (pa_cons (pe_bltn (v := .ty "str") (by rfl) T.t_str PyProof.Rows.boot_str rfl) pa_nil))) (pe_one (pe_cmpR op_eq (pe_fld (pv 0) rfl) (pv 4) (nomark _)))))) qss_nil)
      (qss_one (qs_ret (pcall A_law_terms_are G_law_terms_are hr3 (pa_cons (pe_fld (pv 0) rfl) (pa_cons (pv 6) pa_nil))))))))))))), ?_⟩
    obtain ⟨p, rfl, hp, htt⟩ := id rt
    obtain ⟨dx, fs, ha, hf⟩ := id ra
    have h5 := hg.so
    refine ⟨_, rfl, p, _, rfl, SqT.of hp, rfl, _, _, rfl, _, _, rfl, _, _, rfl, _, _, rfl, _, _, rfl, rfl, ?_⟩
    have ty : ∀ H', Same H H' → TyOf K H' (.ref a) (.ref (C r.so)) := fun H' s => (T.fam.c r.so (by omega)).ty (s _ _ ha)
    have kt : ∀ j, j ≤ 6 → PySem.W.kitOne K (.ref (C r.so)) (.ref (C j)) = some (kitv r.so j) := fun j hj => T.fam.kit r.so j (by omega) hj
    have kt6 : PySem.W.kitOne K (.ref (C r.so)) (.ref (C 6)) = some true := by rw [kt 6 (by decide)]; unfold kitv; simp
    refine ⟨_, rfl, _, _, _, _, rfl, ty _ (Same.refl H), kt 0 (by decide), _, rfl, _, _, _, _, rfl, ty _ (Same.refl H), kt 1 (by decide), _, rfl, _, _, _, _, rfl, ty _ (Same.refl H), kt 2 (by decide), _, rfl, _, _, _, _, rfl, ty _ (Same.refl H), kt 3 (by decide), by show 4 ≤ sizeLine; decide, fun f1 hf1 => ?_⟩
    refine ⟨_, rfl, _, rfl, _, _, _, _, rfl, ty _ (Same.new hf1), kt 4 (by decide), _, rfl, _, _, _, _, rfl, ty _ (Same.new hf1), kt 5 (by decide), by show 2 ≤ sizeLine; decide, fun f2 hf2 => ?_⟩
    refine ⟨f1, f2, _, _, rfl, rfl, (Same.new hf2) _ _ upd_same, upd_same, by show 4 + 2 ≤ sizeLine; decide, fun f3 hf3 => ?_⟩
    refine ⟨by show 6 ≤ sizeLine; decide, fun t1 ht1 => ⟨t1, rfl, ⟨_, SqT.of upd_same⟩, comp_tupI (xs := [V.str "let", V.str "deed", V.str "draw", V.str "late", V.str "take", V.str "need"]) (fun j => V.bl (kitv r.so j)) (by show 6 ≤ sizeLine; decide) (SqT.of upd_same) (fun i x H' Q' hx sm k' => ?_) (fun H5 s5 d hd => ?_)⟩⟩
    · obtain ⟨hi, rfl⟩ := sort_at hx
      refine ⟨_, rfl, _, rfl, rfl, ?_⟩
      have k2 := k' H' (Same.refl _)
      rw [← sort_dec h5 hi] at k2
      exact k2
    have s05 := (((((Same.new hf1).put hf2).put hf3).put ht1).trans s5).put (o := .lst ((List.range 6).map fun j => V.bl (kitv r.so j))) hd
    have hb1 := (Same.new (o := .lst ((List.range 6).map fun j => V.bl (kitv r.so j))) hd) _ _ (s5 _ _ ((Same.new ht1) _ _ upd_same))
    refine ⟨_, rfl, _, _, _, _, rfl, ty _ s05, kt6, _, rfl, iteF ?_⟩
    refine ⟨_, rfl, _, rfl, f3, d, rfl, rfl, dsq_bools (bs := [kitv r.so 0, kitv r.so 1, kitv r.so 2, kitv r.so 3, kitv r.so 4, kitv r.so 5]) hb1 upd_same, _, rfl, iteF ?_⟩
    refine ⟨_, rfl, _, rfl, a, l, _, lt, r, rfl, ra.same s05, rt.same s05, hg, fun H7 s7 => ⟨_, rfl, iteF ?_⟩⟩
    have s07 : Same H H7 := s05.trans s7
    have ha7 := s07 _ _ ha
    have hf7 := hf.same s07
    have ht7 := htt.same s07
    have q7 : ∀ H', Same H7 H' → Q (.bl true) H' := fun H' s => q H' (s07.trans s)
    clear hb1 s05
    obtain ⟨so, nn, aa, ww, tt⟩ := r
    have hc : so ≤ 5 := h5
    have h6 : tt.length ≤ 10 := Nat.le_trans hg.ts.hi (by decide)
    have cl := (T.fam.c so (Nat.le_trans hc (by decide))).cl
    have n1 := T.fam.nn so (Nat.le_trans hc (by decide))
    have n2 := T.fam.na so (Nat.le_trans hc (by decide))
    have n3 := T.fam.nt so (Nat.le_trans hc (by decide))
    by_cases h5' : so = 5
    · subst h5'
      have dd := inV_so (i := 5) (by decide)
      refine ⟨_, rfl, rfl, _, rfl, iteNTb (sT 5) (iteF ?_)⟩
      refine ⟨_, rfl, rfl, _, rfl, iteFb (sF 5 4) (iteF ?_)⟩
      refine ⟨_, rfl, by show 3 ≤ sizeLine; decide, fun t2 ht2 => ⟨t2, _, rfl, .inr (SqT.of upd_same), rfl, rfl, _, rfl, iteFb dd ?_⟩⟩
      have ha7 := (Same.new (o := .tup dal) ht2) _ _ ha7
      exact ⟨_, rfl, rdF ha7 cl n3 ((hf7.tm (.inr (.inr rfl))).1) ⟨_, rfl, l, lt, tt, rfl, (hf7.tm (.inr (.inr rfl))).2.same (Same.new ht2), ht7.same (Same.new ht2), h6, fun H' s' => q7 H' ((Same.new ht2).trans s')⟩⟩
    have l5 : so < 5 := Nat.lt_of_le_of_ne hc h5'
    have f5 : decide (V.str (sortW so) = V.str (sortW 5)) = false := sF so 5 (by unfold kitv; rw [decide_eq_false h5']; rfl) hc
    have nm7 := hf7.nm l5
    by_cases h4' : so = 4
    · subst h4'
      have n4 := T.fam.nw 4 (by decide)
      have w7 := hf7.wd rfl
      have dd := inV_so (i := 4) (by decide)
      refine ⟨_, rfl, rfl, _, rfl, iteNFb f5 ⟨_, rfl, rdF ha7 cl n1 (nm7) ⟨_, _, _, _, rfl, .str _, kit_same, _, rfl, iteF ⟨_, rfl, rdF ha7 cl n1 (nm7) ⟨_, rfl, rfl, _, rfl, iteNe rfl ?_⟩⟩⟩⟩⟩
      refine ⟨_, rfl, rfl, _, rfl, iteTb (sT 4) ⟨_, rfl, rdF ha7 cl n4 (w7) ⟨_, _, _, _, rfl, .str _, kit_same, _, rfl, iteF ⟨_, rfl, rdF ha7 cl n4 (w7) ⟨_, rfl, rfl, _, rfl, iteNe rfl ?_⟩⟩⟩⟩⟩
      refine ⟨_, rfl, by show 3 ≤ sizeLine; decide, fun t2 ht2 => ⟨t2, _, rfl, .inr (SqT.of upd_same), rfl, rfl, _, rfl, iteTb dd ?_⟩⟩
      have ha7 := (Same.new (o := .tup dal) ht2) _ _ ha7
      exact ⟨_, rfl, rdF ha7 cl n2 (hf7.ad (.inr (.inr rfl))) ⟨_, _, _, _, rfl, .str _, kit_same, _, rfl, iteT ⟨_, rfl, rdF ha7 cl n2 (hf7.ad (.inr (.inr rfl))) ⟨_, rfl, rfl, by rw [decide_eq_true rfl]; exact q7 _ (Same.new ht2)⟩⟩⟩⟩
    have f4 : decide (V.str (sortW so) = V.str (sortW 4)) = false := sF so 4 (by unfold kitv; rw [decide_eq_false h4']; rfl) hc
    refine ⟨_, rfl, rfl, _, rfl, iteNFb f5 ⟨_, rfl, rdF ha7 cl n1 (nm7) ⟨_, _, _, _, rfl, .str _, kit_same, _, rfl, iteF ⟨_, rfl, rdF ha7 cl n1 (nm7) ⟨_, rfl, rfl, _, rfl, iteNe rfl ?_⟩⟩⟩⟩⟩
    refine ⟨_, rfl, rfl, _, rfl, iteFb f4 (iteF ?_)⟩
    by_cases h23 : so = 2 ∨ so = 3
    · have dd : inV (V.str (sortW so)) dal = true := by rw [inV_so hc]; rcases h23 with rfl | rfl <;> rfl
      have a7 := hf7.ad (h23.elim .inl fun k => .inr (.inl k))
      refine ⟨_, rfl, by show 3 ≤ sizeLine; decide, fun t2 ht2 => ⟨t2, _, rfl, .inr (SqT.of upd_same), rfl, rfl, _, rfl, iteTb dd ?_⟩⟩
      have ha7 := (Same.new (o := .tup dal) ht2) _ _ ha7
      exact ⟨_, rfl, rdF ha7 cl n2 (a7) ⟨_, _, _, _, rfl, .str _, kit_same, _, rfl, iteT ⟨_, rfl, rdF ha7 cl n2 (a7) ⟨_, rfl, rfl, by rw [decide_eq_true rfl]; exact q7 _ (Same.new ht2)⟩⟩⟩⟩
    · have h01 : so = 0 ∨ so = 1 := by omega
      have dd : inV (V.str (sortW so)) dal = false := by rw [inV_so hc]; rcases h01 with rfl | rfl <;> rfl
      have t7 := hf7.tm (h01.elim .inl fun k => .inr (.inl k))
      refine ⟨_, rfl, by show 3 ≤ sizeLine; decide, fun t2 ht2 => ⟨t2, _, rfl, .inr (SqT.of upd_same), rfl, rfl, _, rfl, iteFb dd ?_⟩⟩
      have ha7 := (Same.new (o := .tup dal) ht2) _ _ ha7
      exact ⟨_, rfl, rdF ha7 cl n3 (t7.1) ⟨_, rfl, l, lt, tt, rfl, t7.2.same (Same.new ht2), ht7.same (Same.new ht2), h6, fun H' s' => q7 H' ((Same.new ht2).trans s')⟩⟩

theorem ok_law_made {C : Nat → Addr} (T : Tx K mg C) {f : Addr} {fd : FuncData} (F : Fun K "_law_made" "_law_made" s_law_made f fd) : FnOk P w K mg base CX0 3 f fd psMade (spMade C) := by
  obtain ⟨f_i_Deed, fd_i_Deed, A_i_Deed, M_Deed⟩ := T.i_Deed
  have G_i_Deed : FnOk P w K mg base CX0 1 f_i_Deed fd_i_Deed psPMDeedInit (spIniL C 1) := ok_m_Deed___init__ T A_i_Deed.F
  obtain ⟨f_i_Draw, fd_i_Draw, A_i_Draw, M_Draw⟩ := T.i_Draw
  have G_i_Draw : FnOk P w K mg base CX0 1 f_i_Draw fd_i_Draw psPMDrawInit (spIniA C 2) := ok_m_Draw___init__ T A_i_Draw.F
  obtain ⟨f_i_Late, fd_i_Late, A_i_Late, M_Late⟩ := T.i_Late
  have G_i_Late : FnOk P w K mg base CX0 1 f_i_Late fd_i_Late psPMLateInit (spIniA C 3) := ok_m_Late___init__ T A_i_Late.F
  obtain ⟨f_i_Let, fd_i_Let, A_i_Let, M_Let⟩ := T.i_Let
  have G_i_Let : FnOk P w K mg base CX0 1 f_i_Let fd_i_Let psPMLetInit (spIniL C 0) := ok_m_Let___init__ T A_i_Let.F
  obtain ⟨f_i_Need, fd_i_Need, A_i_Need, M_Need⟩ := T.i_Need
  have G_i_Need : FnOk P w K mg base CX0 1 f_i_Need fd_i_Need psPMNeedInit (spIniN C) := ok_m_Need___init__ T A_i_Need.F
  obtain ⟨f_i_Take, fd_i_Take, A_i_Take, M_Take⟩ := T.i_Take
  have G_i_Take : FnOk P w K mg base CX0 1 f_i_Take fd_i_Take psPMTakeInit (spIniT C) := ok_m_Take___init__ T A_i_Take.F
  refine F.ok scMade (fun vs H Q E h => ?_) (fun cdv A outer s H vs Q E hr h => ?_)
  · obtain ⟨v, lt, d, r, rfl, _⟩ := h
    rfl
  · obtain ⟨v, lt, d, r, rfl, rt, hd, hg, q⟩ := h
    have hr2 : Room 2 _ := hr
    refine ⟨_, QSs.h (qss_cons (qs_asg (pv 0) (pg_tupK (K := K) (n := 5) rfl rfl (pgs_cons (pg_name (i := 2) scMade.nd rfl (Or.inl rfl)) (pgs_cons (pg_name (i := 3) scMade.nd rfl (Or.inl rfl)) (pgs_cons (pg_name (i := 4) scMade.nd rfl (Or.inl rfl)) (pgs_cons (pg_name (i := 5) scMade.nd rfl (Or.inl rfl)) (pgs_cons (pg_name (i := 6) scMade.nd rfl (Or.inl rfl)) pgs_nil)))))))
      (qss_cons (qs_if (pt_cmpR op_eq (pv 2) pe_str (nomark _)) (qss_one (qs_ret (rmake M_Let A_i_Let.b G_i_Let hr2 T.c_Let (pa_cons (pv 3) (pa_cons (pv 1) pa_nil))))) qss_nil)
      (qss_cons (qs_if (pt_cmpR op_eq (pv 2) pe_str (nomark _)) (qss_one (qs_ret (rmake M_Deed A_i_Deed.b G_i_Deed hr2 T.c_Deed (pa_cons (pv 3) (pa_cons (pv 1) pa_nil))))) qss_nil)
      (qss_cons (qs_if (pt_cmpR op_eq (pv 2) pe_str (nomark _)) (qss_one (qs_ret (rmake M_Draw A_i_Draw.b G_i_Draw hr2 T.c_Draw (pa_cons (pv 4) (pa_cons (pv 3) pa_nil))))) qss_nil)
      (qss_cons (qs_if (pt_cmpR op_eq (pv 2) pe_str (nomark _)) (qss_one (qs_ret (rmake M_Late A_i_Late.b G_i_Late hr2 T.c_Late (pa_cons (pv 4) (pa_cons (pv 3) pa_nil))))) qss_nil)
      (qss_cons (qs_if (pt_cmpR op_eq (pv 2) pe_str (nomark _)) (qss_one (qs_ret (rmake M_Take A_i_Take.b G_i_Take hr2 T.c_Take (pa_cons (pv 5) (pa_cons (pv 4) (pa_cons (pv 3) pa_nil)))))) qss_nil)
      (qss_one (qs_ret (rmake M_Need A_i_Need.b G_i_Need hr2 T.c_Need (pa_cons (pv 1) pa_nil)))))))))), ?_⟩
    obtain ⟨p, rfl, hp, htt⟩ := id rt
    obtain ⟨so, nn, aa, ww, tt⟩ := r
    have h5 : so ≤ 5 := hg.so
    have hd' : TmsAt H d tt := hd
    have h6 : tt.length ≤ 10 := Nat.le_trans hg.ts.hi (by decide)
    refine ⟨_, rfl, p, _, rfl, SqT.of hp, rfl, _, _, rfl, _, _, rfl, _, _, rfl, _, _, rfl, _, _, rfl, rfl, ?_⟩
    rcases six h5 with rfl | rfl | rfl | rfl | rfl | rfl
    · exact ⟨_, rfl, rfl, _, rfl, iteTb (sT 0) ⟨_, rfl, _, rfl, fun x dx hx hdx hne => ⟨x, dx, ⟨0, nn, aa, ww, tt⟩, d, rfl, rfl, upd_same, hd'.same (new_ins hx hdx), h6, fun l H' hl sb ra => ⟨rfl, q x l H' (fun b o e => sb b o (new_ins hx hdx b o e) (ne_of_none e hx)) hx ((new_ins hx hdx).free hl) ra⟩⟩⟩⟩
    · exact ⟨_, rfl, rfl, _, rfl, iteFb (sF 1 0) ⟨_, rfl, rfl, _, rfl, iteTb (sT 1) ⟨_, rfl, _, rfl, fun x dx hx hdx hne => ⟨x, dx, ⟨1, nn, aa, ww, tt⟩, d, rfl, rfl, upd_same, hd'.same (new_ins hx hdx), h6, fun l H' hl sb ra => ⟨rfl, q x l H' (fun b o e => sb b o (new_ins hx hdx b o e) (ne_of_none e hx)) hx ((new_ins hx hdx).free hl) ra⟩⟩⟩⟩⟩
    · exact ⟨_, rfl, rfl, _, rfl, iteFb (sF 2 0) ⟨_, rfl, rfl, _, rfl, iteFb (sF 2 1) ⟨_, rfl, rfl, _, rfl, iteTb (sT 2) ⟨_, rfl, _, rfl, fun x dx hx hdx hne => ⟨x, dx, ⟨2, nn, aa, ww, tt⟩, rfl, rfl, upd_same, fun H' sb ra => ⟨rfl, q x x H' (fun b o e => sb b o (new_ins hx hdx b o e) (ne_of_none e hx)) hx hx (ra x)⟩⟩⟩⟩⟩⟩
    · exact ⟨_, rfl, rfl, _, rfl, iteFb (sF 3 0) ⟨_, rfl, rfl, _, rfl, iteFb (sF 3 1) ⟨_, rfl, rfl, _, rfl, iteFb (sF 3 2) ⟨_, rfl, rfl, _, rfl, iteTb (sT 3) ⟨_, rfl, _, rfl, fun x dx hx hdx hne => ⟨x, dx, ⟨3, nn, aa, ww, tt⟩, rfl, rfl, upd_same, fun H' sb ra => ⟨rfl, q x x H' (fun b o e => sb b o (new_ins hx hdx b o e) (ne_of_none e hx)) hx hx (ra x)⟩⟩⟩⟩⟩⟩⟩
    · exact ⟨_, rfl, rfl, _, rfl, iteFb (sF 4 0) ⟨_, rfl, rfl, _, rfl, iteFb (sF 4 1) ⟨_, rfl, rfl, _, rfl, iteFb (sF 4 2) ⟨_, rfl, rfl, _, rfl, iteFb (sF 4 3) ⟨_, rfl, rfl, _, rfl, iteTb (sT 4) ⟨_, rfl, _, rfl, _, rfl, fun x dx hx hdx hne => ⟨x, dx, ⟨4, nn, aa, ww, tt⟩, rfl, rfl, upd_same, fun H' sb ra => ⟨rfl, q x x H' (fun b o e => sb b o (new_ins hx hdx b o e) (ne_of_none e hx)) hx hx (ra x)⟩⟩⟩⟩⟩⟩⟩⟩
    · exact ⟨_, rfl, rfl, _, rfl, iteFb (sF 5 0) ⟨_, rfl, rfl, _, rfl, iteFb (sF 5 1) ⟨_, rfl, rfl, _, rfl, iteFb (sF 5 2) ⟨_, rfl, rfl, _, rfl, iteFb (sF 5 3) ⟨_, rfl, rfl, _, rfl, iteFb (sF 5 4) ⟨_, rfl, fun x dx hx hdx hne => ⟨x, dx, ⟨5, nn, aa, ww, tt⟩, d, rfl, rfl, upd_same, hd'.same (new_ins hx hdx), h6, fun l H' hl sb ra => ⟨rfl, q x l H' (fun b o e => sb b o (new_ins hx hdx b o e) (ne_of_none e hx)) hx ((new_ins hx hdx).free hl) ra⟩⟩⟩⟩⟩⟩⟩⟩

theorem ok_law_strange {C : Nat → Addr} (T : Tx K mg C) {f : Addr} {fd : FuncData} (F : Fun K "_law_strange" "_law_strange" s_law_strange f fd) : FnOk P w K mg base CX0 1 f fd psStrange spStrange := by
  refine F.ok scStrange (fun vs H Q E h => ?_) (fun cdv A outer s H vs Q E hr h => ?_)
  · obtain ⟨l, zs, rfl, _⟩ := h
    rfl
  · obtain ⟨l, zs, rfl, hl, h12, hfl, q⟩ := h
    refine ex_of ((qss_cons (qs_setQ (i := 1) scStrange.nd rfl (Or.inl rfl) (qe_lstQ (qa_strs (xs := ["z", "zz", "zzz", "q", "qq", "x", "xx", "w", "ww", "v", "vv", "u", "uu"]) (by kernel_rfl))) (hs := by kernel_rfl))
      (qss_one (qs_retQ (qe_ix ix_list (qe_of (pe_comp (N := ["_law_name_here", "_law_names_here"]) [none, some 0] rfl (by kernel_rfl) (pi_list (pv 1)) (fun cl C fp s H => (pg_name (i := 0) (by decide +kernel : (["_law_name_here", "_law_names_here"] : List Str).Nodup) rfl (Or.inl rfl))) (fun cl C fp s H => (pf_one (pt_cmpR (op_notInK (K := K) rfl) (pv 0) (pv 1) (by rfl)))) (fun cl C fp s H => (pv 0)))) pe_int (fun _ _ => rfl)))))) ?_
    refine ⟨by show 13 ≤ sizeLine; decide, fun A hA => ?_⟩
    have hAs : (upd H A (.lst (strangeW.map V.str))) A = some (.lst (strangeW.map V.str)) := upd_same
    refine ⟨_, rfl, A, rfl, ⟨_, SqL.of hAs⟩, comp_listF (xs := strangeW.map V.str) (fun v => !inV v zs) (by show 13 ≤ sizeLine; decide) (SqL.of hAs) (fun x H' Q' hx sm k => ?_) (fun x H' Q' hx sm k => ?_) (fun H' sm b hb => ?_)⟩
    · obtain ⟨s, _, rfl⟩ := List.mem_map.mp hx
      exact ⟨_, rfl, _, rfl, l, zs, rfl, .inl (SqL.of (((Same.new hA).trans sm) _ _ hl)), rfl, hfl, _, rfl, k H' (Same.refl _)⟩
    · exact ⟨_, rfl, k H' (Same.refl _)⟩
    · obtain ⟨z, ys, e, hz, hne⟩ := strange_some h12
      refine ⟨b, _, _, V.str z, rfl, rfl, SqL.of upd_same, ?_, q z hz hne _ (((Same.new hA).trans sm).put hb)⟩
      rw [e]
      exact atI_nat (j := 0) rfl

theorem ok_law_holds {C : Nat → Addr} (T : Tx K mg C) {f : Addr} {fd : FuncData} (F : Fun K "_law_holds" "_law_holds" s_law_holds f fd) : FnOk P w K mg base CX0 6 f fd psHolds (spHolds C) := by
  obtain ⟨f_law_is, fd_law_is, A_law_is⟩ := T.a_law_is
  have G_law_is : FnOk P w K mg base CX0 5 f_law_is fd_law_is psIs (spIs C) := ok_law_is T A_law_is.F
  obtain ⟨f_law_strange, fd_law_strange, A_law_strange⟩ := T.a_law_strange
  have G_law_strange : FnOk P w K mg base CX0 1 f_law_strange fd_law_strange psStrange spStrange := ok_law_strange T A_law_strange.F
  obtain ⟨f_law_whole, fd_law_whole, A_law_whole⟩ := T.a_law_whole
  have G_law_whole : FnOk P w K mg base CX0 1 f_law_whole fd_law_whole psWhole spWh := ok_law_whole T A_law_whole.F
  obtain ⟨f_bound, fd_bound, A_bound, M_bound⟩ := T.m_Part_bound
  have G_bound : FnOk P w K mg base CX0 4 f_bound fd_bound psPMPartBound (spBound C) := ok_m_Part_bound T A_bound.F
  obtain ⟨f_place_of, fd_place_of, A_place_of, M_place_of⟩ := T.m_Part_place_of
  have G_place_of : FnOk P w K mg base CX0 4 f_place_of fd_place_of psPMPartPlaceOf (spPlace C) := ok_m_Part_place_of T A_place_of.F
  refine F.ok scHolds (fun vs H Q E h => ?_) (fun cdv A outer s H vs Q E hr h => ?_)
  · obtain ⟨p, ad, l, lr, rs, rfl, _⟩ := h
    rfl
  · obtain ⟨p, ad, l, lr, rs, rfl, hp, ht, hg, hap, q⟩ := h
    have hr1 : Room 1 _ := hr.mono (by decide)
    have hr4 : Room 4 _ := hr.mono (by decide)
    have hr5 : Room 5 _ := hr
    refine ⟨_, QSs.h (qss_cons (qs_comp (N := ["_law_row_here"]) [none] (i := 3) scHolds.nd rfl (Or.inl rfl) rfl (by kernel_rfl) (pi_list (pv 2)) (fun cl C fp s H => (pg_name (i := 0) (by decide +kernel : (["_law_row_here"] : List Str).Nodup) rfl (Or.inl rfl))) (fun cl C fp s H => (pf_one (pt_cmpR op_ne (pe_ix (ix_tupK (K := K) rfl) (pv 0) pe_int (fun _ _ => rfl)) pe_str (nomark _)))) (fun cl C fp s H => (pe_ix (ix_tupK (K := K) rfl) (pv 0) pe_int (fun _ _ => rfl))))
      (qss_cons (qs_if (PW.pt (pw_or (pt_not (pt_val (pe_callB call_instC (by rfl) T.inst PyProof.Rows.boot_isinstance (pa_cons (pv 0) (pa_cons (pglR T.c_Part) pa_nil))))) (pw_or (pt_not (pt_val (pe_callB call_inst (by rfl) T.inst PyProof.Rows.boot_isinstance (pa_cons (pe_fld (pv 0) rfl) (pa_cons (pe_bltn (v := .ty "str") (by rfl) T.t_str PyProof.Rows.boot_str rfl) pa_nil))))) (pw_or1 (pt_cmpR op_ne (pe_fld (pv 0) rfl) (pv 1) (nomark _)))))) (qss_one (qs_ret pe_bl)) qss_nil)
      (qss_cons (qs_if (PW.pt (pw_or (pt_not (pt_val (pe_callB call_inst (by rfl) T.inst PyProof.Rows.boot_isinstance (pa_cons (pe_fld (pv 0) rfl) (pa_cons (pe_bltn (v := .ty "list") (by rfl) T.t_list PyProof.Rows.boot_list rfl) pa_nil))))) (pw_or1 (pt_cmpR op_ne (pe_callB call_len_seq (by rfl) T.len PySem.boot_len (pa_cons (pe_fld (pv 0) rfl) pa_nil)) (pe_callB call_len_seq (by rfl) T.len PySem.boot_len (pa_cons (pv 2) pa_nil)) (nomark _))))) (qss_one (qs_ret pe_bl)) qss_nil)
      (qss_cons (qs_for PassesOwn.never rfl (pi_range1 (by rfl) T.range (pa_cons (pe_callB call_len_seq (by rfl) T.len PySem.boot_len (pa_cons (pv 2) pa_nil)) pa_nil)) (pg_name (i := 4) scHolds.nd rfl (Or.inl rfl))
      (qss_cons (qs_if (pt_not (pt_val (pcall A_law_is G_law_is hr5 (pa_cons (pe_ix ix_list (pe_fld (pv 0) rfl) (pv 4) (fun _ _ => rfl)) (pa_cons (pe_ix ix_list (pv 2) (pv 4) (fun _ _ => rfl)) pa_nil))))) (qss_one (qs_ret pe_bl)) qss_nil)
      (qss_cons (qs_set (i := 5) scHolds.nd rfl (Or.inl rfl) (pe_meth (pv 0) T.pt.cl.cl M_place_of G_place_of hr4 A_place_of.b .nil pass0 (pa_cons (pe_ix ix_tup (pe_ix ix_list (pv 2) (pv 4) (fun _ _ => rfl)) pe_int (fun _ _ => rfl)) pa_nil)))
      (qss_one (qs_if (PW.pt (pw_and (pt_cmpR op_ne (pe_ix ix_tup (pe_ix ix_list (pv 2) (pv 4) (fun _ _ => rfl)) pe_int (fun _ _ => rfl)) pe_str (nomark _)) (pw_and1 (PW.pt (pw_or (pt_not (pt_val (pcall A_law_whole G_law_whole hr1 (pa_cons (pv 5) pa_nil)))) (pw_or1 (pt_cmpR op_ne (pv 5) (pv 4) (nomark _)))))))) (qss_one (qs_ret pe_bl)) qss_nil)))))
      (qss_cons (qs_set (i := 6) scHolds.nd rfl (Or.inl rfl) (pe_meth0 (pv 0) T.pt.cl.cl M_bound G_bound hr4 A_bound.b .nil pass0))
      (qss_cons (qs_if (PW.pt (pw_or (pt_not (pt_val (pe_callB call_inst (by rfl) T.inst PyProof.Rows.boot_isinstance (pa_cons (pv 6) (pa_cons (pe_bltn (v := .ty "list") (by rfl) T.t_list PyProof.Rows.boot_list rfl) pa_nil))))) (pw_or1 (pt_cmpR (op_neD (K := K) rfl hr.units) (pv 6) (pv 3) (nomark _))))) (qss_one (qs_ret pe_bl)) qss_nil)
      (qss_cons (qs_expr (pe_bm PySem.F.plainAttrs_list PySem.F.slot_list_append PySem.F.type_list_append mt_append (pv 6) (pa_cons pe_str pa_nil)))
      (qss_one (qs_ret (pe_and (pe_cmpR (op_eqD (K := K) rfl hr.units) (pe_meth0 (pv 0) T.pt.cl.cl M_bound G_bound hr4 A_bound.b .nil pass0) (pv 3) (nomark _)) (pe_one (pe_cmpR op_isN (pe_meth (pv 0) T.pt.cl.cl M_place_of G_place_of hr4 A_place_of.b .nil pass0 (pa_cons (pcall A_law_strange G_law_strange hr1 (pa_cons (pv 3) pa_nil)) pa_nil)) pe_non (nomark _))))))))))))), ?_⟩
    obtain ⟨dx, fs, ea, a1, a2, a3, a4, a5, hr0⟩ := id hp
    obtain ⟨xs, hl, hxl, hxt⟩ := id hr0
    obtain ⟨ts, htl, htn, htt⟩ := id ht
    have h12 : rs.length ≤ 12 := hg.hi
    have hx12 : ts.length ≤ sizeLine := Nat.le_trans (show ts.length ≤ 12 by omega) (by decide)
    refine ⟨_, rfl, lr, rfl, ⟨_, SqL.of htl⟩, comp_listFI (fun i => isE ((rs.map fun r => V.str r.nm).getD i .non)) (fun i => (rs.map fun r => V.str r.nm).getD i .non) hx12 (SqL.of htl) (fun i x H' Q' hx sm k => ?_) (fun i x H' Q' hx sm k => ?_) (fun H' sm b hb => ?_)⟩
    · obtain ⟨pp, t, hi, rfl, hpp, _⟩ := tups_at htt htn hx sm
      have k2 : Q' (isE ((rs.map fun r => V.str r.nm).getD i .non)) H' := k H' (Same.refl _)
      rw [nm_at hi] at k2
      exact ⟨_, rfl, pp, _, _, V.str rs[i].nm, rfl, rfl, SqT.of hpp, rfl, rfl, _, rfl, k2⟩
    · obtain ⟨pp, t, hi, rfl, hpp, _⟩ := tups_at htt htn hx sm
      have k2 : Q' ((rs.map fun r => V.str r.nm).getD i .non) H' := k H' (Same.refl _)
      rw [nm_at hi] at k2
      exact ⟨_, rfl, pp, _, _, V.str rs[i].nm, rfl, rfl, SqT.of hpp, rfl, k2⟩
    have em := names_comp (rs := rs) htn
    rw [em]
    have s1 : Same H (upd H' b (.lst (namesV rs))) := sm.put hb
    have hb1 : (upd H' b (.lst (namesV rs))) b = some (.lst (namesV rs)) := upd_same
    generalize upd H' b (.lst (namesV rs)) = H1 at s1 hb1
    clear em
    have ea1 := s1 _ _ ea
    have hl1 := s1 _ _ hl
    have htl1 := s1 _ _ htl
    refine ⟨_, rfl, _, _, _, _, rfl, T.pt.cl.ty ea1, T.pt.kit, _, rfl, iteF ⟨_, rfl, rdF ea1 T.pt.cl.cl T.pt.na a1 ⟨_, _, _, _, rfl, .str _, kit_same, _, rfl, iteF ⟨_, rfl, rdF ea1 T.pt.cl.cl T.pt.na a1 ⟨_, rfl, rfl, _, rfl, iteNe rfl ?_⟩⟩⟩⟩⟩
    refine ⟨_, rfl, rdF ea1 T.pt.cl.cl T.pt.nr a2 ⟨_, _, _, _, rfl, .lst hl1, kit_same, _, rfl, iteF ⟨_, rfl, rdF ea1 T.pt.cl.cl T.pt.nr a2 ⟨l, _, rfl, .inl (SqL.of hl1), _, rfl, lr, _, rfl, .inl (SqL.of htl1), rfl, _, rfl, iteNe (by rw [hxl, htn]) ?_⟩⟩⟩⟩
    refine ⟨_, rfl, lr, _, rfl, .inl (SqL.of htl1), _, rfl, by omega, by omega, ?_⟩
    refine for_range (fun i σ H2 => ∃ v4 v5 v6, σ = [some (.ref p), some (.str ad), some (.ref lr), some (.ref b), v4, v5, v6] ∧ Same H1 H2) ⟨none, none, none, rfl, Same.refl _⟩ ?_ ?_
    · rintro i σ H2 hi ⟨v4, v5, v6, rfl, sm2⟩
      have hi : i < rs.length := by rw [← htn]; omega
      have s2 := s1.trans sm2
      have er : rs[i]? = some rs[i] := List.getElem?_eq_getElem hi
      obtain ⟨a, t, ex, ra⟩ := hxt i _ er
      obtain ⟨tv, tt, et, rt⟩ := htt i _ er
      obtain ⟨tp, rfl, htp, htm⟩ := id rt
      have gr := hg.at er
      have ax : atI xs (0 + (i : Int)) = some (.ref a) := by rw [Int.zero_add]; exact atI_nat ex
      have at_ : atI ts (0 + (i : Int)) = some (.ref tp) := by rw [Int.zero_add]; exact atI_nat et
      refine ⟨_, rfl, rdF (s2 _ _ ea) T.pt.cl.cl T.pt.nr a2 ⟨_, rfl, l, _, _, _, rfl, rfl, SqL.of (s2 _ _ hl), ax, _, rfl, _, rfl, lr, _, _, _, rfl, rfl, SqL.of (s2 _ _ htl), at_, a, t, .ref tp, tt, rs[i], rfl, ra.same s2, rt.same s2, gr, fun H3 s3 => ⟨_, rfl, iteF ?_⟩⟩⟩
      have s23 := s2.trans s3
      refine ⟨_, rfl, p, dx, fs, rfl, s23 _ _ ea, a4, _, rfl, _, rfl, lr, _, _, _, rfl, rfl, SqL.of (s23 _ _ htl), at_, tp, _, _, V.str rs[i].nm, rfl, rfl, SqT.of (s23 _ _ htp), rfl, p, ad, l, rs, rs[i].nm, rfl, hp.same s23, hg, fun H4 s4 => ?_⟩
      have s24 := s23.trans s4
      by_cases hn : rs[i].nm = ""
      · refine ⟨_, rfl, _, rfl, lr, _, _, _, rfl, rfl, SqL.of (s24 _ _ htl), at_, tp, _, _, V.str rs[i].nm, rfl, rfl, SqT.of (s24 _ _ htp), rfl, rfl, _, rfl, iteNTb (decide_eq_true (congrArg V.str hn)) (iteF ?_)⟩
        exact ⟨_, _, _, rfl, sm2.trans (s3.trans s4)⟩
      · have hpv : placeV rs rs[i].nm = .int (i : Nat) := place_at er rfl hn fun j r hj e z => absurd (hap j i r _ e er z (by rw [z]; exact hn)) (Nat.ne_of_lt hj)
        refine ⟨_, rfl, _, rfl, lr, _, _, _, rfl, rfl, SqL.of (s24 _ _ htl), at_, tp, _, _, V.str rs[i].nm, rfl, rfl, SqT.of (s24 _ _ htp), rfl, rfl, _, rfl, iteNFb (decide_eq_false fun z => hn (V.str.inj z)) ⟨_, rfl, (i : Int), congrArg (fun v => [v]) hpv, fun H5 s5 => ⟨_, rfl, iteF ⟨_, rfl, _, rfl, by rw [hpv]; rfl, _, rfl, iteNe (hpv.trans (by rw [Int.zero_add])) ?_⟩⟩⟩⟩
        exact ⟨_, _, _, rfl, sm2.trans (s3.trans (s4.trans s5))⟩
    · rintro σ H2 ⟨v4, v5, v6, rfl, sm2⟩
      have s2 := s1.trans sm2
      refine ⟨_, rfl, p, dx, fs, rfl, s2 _ _ ea, a3, p, ad, l, rs, rfl, hp.same s2, hg, fun c H4 hc s4 hcl => ?_⟩
      have hb4 : H4 b = some (.lst (namesV rs)) := s4 _ _ (sm2 _ _ hb1)
      refine ⟨_, rfl, _, _, _, _, rfl, .lst hcl, kit_same, _, rfl, iteF ⟨_, rfl, _, rfl, c, b, rfl, rfl, dsq_names hcl hb4, _, rfl, iteF ?_⟩⟩
      have hnl := namesV_len hg
      refine ⟨_, rfl, .inl ⟨rfl, _, SqL.of hcl⟩, c, _, _, rfl, rfl, hcl, Nat.lt_of_lt_of_le (show (namesV rs).length < 1000 by omega) big1000, ?_⟩
      have s25 : Same H2 (upd H4 c (.lst (namesV rs ++ [V.str "a"]))) := s4.over hc
      generalize upd H4 c (.lst (namesV rs ++ [V.str "a"])) = H5 at s25
      have s05 := s2.trans s25
      have hb5 := s25 _ _ (sm2 _ _ hb1)
      refine ⟨_, rfl, p, dx, fs, rfl, s05 _ _ ea, a3, p, ad, l, rs, rfl, hp.same s05, hg, fun c2 H6 hc2 s6 hc2l => ⟨_, rfl, c2, b, rfl, rfl, dsq_names hc2l (s6 _ _ hb5), _, rfl, iteT ?_⟩⟩
      have s06 := s05.trans s6
      refine ⟨_, rfl, p, dx, fs, rfl, s06 _ _ ea, a4, _, rfl, b, namesV rs, rfl, s6 _ _ hb5, hnl, namesV_flat rs, fun z hz hne H7 s7 => ⟨p, ad, l, rs, z, rfl, hp.same (s06.trans s7), hg, fun H8 s8 => ⟨rfl, ?_⟩⟩⟩
      have e : decide (placeV rs z = .non) = true := decide_eq_true (place_str hz hne)
      have q2 := q H8 (s06.trans (s7.trans s8))
      rw [← e] at q2
      exact q2

theorem ok_law {C : Nat → Addr} (T : Tx K mg C) {f : Addr} {fd : FuncData} (F : Fun K "law" "law" s_law f fd) : FnOk P w K mg base CX0 10 f fd psLaw (spLaw K) := by
  obtain ⟨f_law_cell, fd_law_cell, A_law_cell⟩ := T.a_law_cell
  have G_law_cell : FnOk P w K mg base CX0 1 f_law_cell fd_law_cell psCell (spCellN K) := ok_cell A_law_cell.F T.len
  obtain ⟨f_law_pick, fd_law_pick, A_law_pick⟩ := T.a_law_pick
  have G_law_pick : FnOk P w K mg base CX0 1 f_law_pick fd_law_pick psPick spPick := ok_pick A_law_pick.F
  obtain ⟨f_law_names, fd_law_names, A_law_names⟩ := T.a_law_names
  have G_law_names : FnOk P w K mg base CX0 2 f_law_names fd_law_names psNames spNames := ok_law_names T A_law_names.F
  obtain ⟨f_law_address, fd_law_address, A_law_address⟩ := T.a_law_address
  have G_law_address : FnOk P w K mg base CX0 4 f_law_address fd_law_address psAddress spAddr := ok_law_address T A_law_address.F
  obtain ⟨f_read_part, fd_read_part, A_read_part⟩ := T.a_read_part
  have G_read_part : FnOk P w K mg base CX0 9 f_read_part fd_read_part psPReadPart (spReadP C) := ok_read_part T A_read_part.F
  obtain ⟨f_law_made, fd_law_made, A_law_made⟩ := T.a_law_made
  have G_law_made : FnOk P w K mg base CX0 3 f_law_made fd_law_made psMade (spMade C) := ok_law_made T A_law_made.F
  obtain ⟨f_law_row, fd_law_row, A_law_row⟩ := T.a_law_row
  have G_law_row : FnOk P w K mg base CX0 6 f_law_row fd_law_row psRow spRow4 := ok_law_row T A_law_row.F
  obtain ⟨f_law_holds, fd_law_holds, A_law_holds⟩ := T.a_law_holds
  have G_law_holds : FnOk P w K mg base CX0 6 f_law_holds fd_law_holds psHolds (spHolds C) := ok_law_holds T A_law_holds.F
  obtain ⟨f_law_said, fd_law_said, A_law_said⟩ := T.a_law_said
  have G_law_said : FnOk P w K mg base CX0 3 f_law_said fd_law_said psSaid spSaid := ok_law_said T A_law_said.F
  obtain ⟨f_bound, fd_bound, A_bound, M_bound⟩ := T.m_Part_bound
  have G_bound : FnOk P w K mg base CX0 4 f_bound fd_bound psPMPartBound (spBound C) := ok_m_Part_bound T A_bound.F
  obtain ⟨f_place_of, fd_place_of, A_place_of, M_place_of⟩ := T.m_Part_place_of
  have G_place_of : FnOk P w K mg base CX0 4 f_place_of fd_place_of psPMPartPlaceOf (spPlace C) := ok_m_Part_place_of T A_place_of.F
  obtain ⟨f_text, fd_text, A_text, M_text⟩ := T.m_Part_text
  have G_text : FnOk P w K mg base CX0 4 f_text fd_text psPMPartText (spPText C) := ok_m_Part_text T A_text.F
  obtain ⟨f_i_Part, fd_i_Part, A_i_Part, M_Part⟩ := T.i_Part
  have G_i_Part : FnOk P w K mg base CX0 1 f_i_Part fd_i_Part psPMPartInit (spPIni C) := ok_m_Part___init__ T A_i_Part.F
  refine F.ok scLaw (fun vs H Q E h => ?_) (fun cdv A outer s H vs Q E hr h => ?_)
  · obtain ⟨a, ns, rfl, _⟩ := h
    rfl
  · obtain ⟨a, ns, rfl, hS, hlen, q⟩ := h
    have hr1 : Room 1 _ := hr.mono (by decide)
    have hr2 : Room 2 _ := hr.mono (by decide)
    have hr3 : Room 3 _ := hr.mono (by decide)
    have hr4 : Room 4 _ := hr.mono (by decide)
    have hr6 : Room 6 _ := hr.mono (by decide)
    have hr9 : Room 9 _ := hr
    refine ⟨_, QSs.h (qss_cons (qs_set (i := 1) scLaw.nd rfl (Or.inl rfl) (pcall A_law_cell G_law_cell hr1 (pa_cons (pv 0) (pa_cons pe_int pa_nil))))
      (qss_cons (qs_set (i := 2) scLaw.nd rfl (Or.inl rfl) (pcall A_law_pick G_law_pick hr1 (pa_cons (pv 1) (pa_cons pe_int (pa_cons pe_int pa_nil)))))
      (qss_cons (qs_set (i := 3) scLaw.nd rfl (Or.inl rfl) (pcall A_law_names G_law_names hr2 (pa_cons (pcall A_law_cell G_law_cell hr1 (pa_cons (pv 0) (pa_cons pe_int pa_nil))) (pa_cons pe_int pa_nil))))
      (qss_cons (qs_set (i := 4) scLaw.nd rfl (Or.inl rfl) (pe_lst pa_nil))
      (qss_cons (qs_for PassesOwn.never rfl (pi_range1 (by rfl) T.range (pa_cons (pv 2) pa_nil)) (pg_name (i := 5) scLaw.nd rfl (Or.inl rfl))
      (qss_one (qs_expr (pe_bm PySem.F.plainAttrs_list PySem.F.slot_list_append PySem.F.type_list_append mt_append (pv 4) (pa_cons (pcall A_law_row G_law_row hr6 (pa_cons (pcall A_law_cell G_law_cell hr1 (pa_cons (pv 0) (pa_cons (pe_op op_add pe_int (pv 5)) pa_nil))) (pa_cons (pe_ix ix_list (pv 3) (pv 5) (fun _ _ => rfl)) pa_nil))) pa_nil)))))
      (qss_cons (qs_set (i := 6) scLaw.nd rfl (Or.inl rfl) (pcall A_law_address G_law_address hr4 (pa_cons (pv 1) pa_nil)))
      (qss_cons (qs_set (i := 7) scLaw.nd rfl (Or.inl rfl) (pe_bm PySem.F.plainAttrs_str PySem.F.slot_str_join PySem.F.type_str_join mt_join pe_str (pa_cons (pe_op op_cat (pe_lst (pa_cons (pe_op op_add_str pe_str (pv 6)) pa_nil)) (pe_comp (N := ["_law_row_here"]) [none] rfl (by kernel_rfl) (pi_list (pv 4)) (fun cl C fp s H => (pg_name (i := 0) (by decide +kernel : (["_law_row_here"] : List Str).Nodup) rfl (Or.inl rfl))) (fun cl C fp s H => pf_nil) (fun cl C fp s H => (pcall A_law_said G_law_said hr3 (pa_cons (pv 0) pa_nil))))) pa_nil)))
      (qss_cons (qs_comp (N := ["_law_row_here"]) [none] (i := 8) scLaw.nd rfl (Or.inl rfl) rfl (by kernel_rfl) (pi_list (pv 4)) (fun cl C fp s H => (pg_name (i := 0) (by decide +kernel : (["_law_row_here"] : List Str).Nodup) rfl (Or.inl rfl))) (fun cl C fp s H => pf_nil) (fun cl C fp s H => (pcall A_law_made G_law_made hr3 (pa_cons (pv 0) (pa_cons (pe_callTy (call_list_ofK (K := K) rfl) (by rfl) T.t_list PyProof.Rows.boot_list (pa_cons (pe_ix (ix_tupK (K := K) rfl) (pv 0) pe_int (fun _ _ => rfl)) pa_nil)) pa_nil)))))
      (qss_cons (qs_set (i := 9) scLaw.nd rfl (Or.inl rfl) (pe_callTy call_list_of (by rfl) T.t_list PyProof.Rows.boot_list (pa_cons (pv 8) pa_nil)))
      (qss_cons (qs_set (i := 10) scLaw.nd rfl (Or.inl rfl) (rmake M_Part A_i_Part.b G_i_Part hr2 T.c_Part (pa_cons (pv 6) (pa_cons (pv 8) pa_nil))))
      (qss_cons (qs_if (pt_cmpR (op_neD (K := K) rfl hr.units) (pv 8) (pv 9) (nomark _)) (qss_one (qs_ret pe_bl)) qss_nil)
      (qss_cons (qs_expr (pe_bm0 PySem.F.plainAttrs_list PySem.F.slot_list_clear PySem.F.type_list_clear mt_clear (pv 8)))
      (qss_cons (qs_set (i := 11) scLaw.nd rfl (Or.inl rfl) (pcall A_read_part G_read_part hr9 (pa_cons (pv 7) pa_nil)))
      (qss_cons (qs_set (i := 12) scLaw.nd rfl (Or.inl rfl) (pcall A_read_part G_read_part hr9 (pa_cons pe_str pa_nil)))
      (qss_cons (qs_if (PW.pt (pw_or (pt_not (pt_val (pcall A_law_holds G_law_holds hr6 (pa_cons (pv 11) (pa_cons (pv 6) (pa_cons (pv 4) pa_nil)))))) (pw_or1 (pt_not (pt_val (pcall A_law_holds G_law_holds hr6 (pa_cons (pv 10) (pa_cons (pv 6) (pa_cons (pv 4) pa_nil))))))))) (qss_one (qs_ret pe_bl)) qss_nil)
      (qss_cons (qs_if (PW.pt (pw_or (pt_cmpR op_ne (pe_meth (pv 12) T.pt.cl.cl M_place_of G_place_of hr4 A_place_of.b .nil pass0 (pa_cons pe_str pa_nil)) pe_int (nomark _)) (pw_or (pt_cmpR (op_neD (K := K) rfl hr.units) (pe_meth0 (pv 12) T.pt.cl.cl M_bound G_bound hr4 A_bound.b .nil pass0) (pe_lst (pa_cons pe_str pa_nil)) (nomark _)) (pw_or1 (pt_cmpR op_ne (pe_meth0 (pv 12) T.pt.cl.cl M_text G_text hr4 A_text.b .nil pass0) pe_str (nomark _)))))) (qss_one (qs_ret pe_bl)) qss_nil)
      (qss_cons (qs_for PassesOwn.never rfl (pi_list (pe_lst (pa_cons (pv 11) (pa_cons (pv 10) (pa_cons (pcall A_read_part G_read_part hr9 (pa_cons (pv 7) pa_nil)) pa_nil))))) (pg_name (i := 13) scLaw.nd rfl (Or.inl rfl))
      (qss_one (qs_if (PW.pt (pw_or (pt_not (pt_val (pe_callB call_inst (by rfl) T.inst PyProof.Rows.boot_isinstance (pa_cons (pe_meth0 (pv 13) T.pt.cl.cl M_text G_text hr4 A_text.b .nil pass0) (pa_cons (pe_bltn (v := .ty "str") (by rfl) T.t_str PyProof.Rows.boot_str rfl) pa_nil))))) (pw_or (pt_cmpR op_ne (pe_meth0 (pv 13) T.pt.cl.cl M_text G_text hr4 A_text.b .nil pass0) (pv 7) (nomark _)) (pw_or1 (pt_not (pt_val (pcall A_law_holds G_law_holds hr6 (pa_cons (pv 13) (pa_cons (pv 6) (pa_cons (pv 4) pa_nil)))))))))) (qss_one (qs_ret pe_bl)) qss_nil)))
      (qss_one (qs_ret pe_bl))))))))))))))))))), ?_⟩
    refine ⟨_, rfl, a, ns, 0, rfl, hS, by decide, fun H1 s1 => ?_⟩
    generalize cellN ns 0 = c0
    have k1 := pick_ge c0 0 (m := 13) (by decide)
    have k2 := pick_lt c0 0 (m := 13) (by decide)
    refine ⟨_, rfl, c0, 0, 13, rfl, by decide, by decide, by decide, fun H2 s2 => ?_⟩
    generalize pick c0 0 13 = mn at k1 k2
    refine ⟨_, rfl, a, ns, 1, rfl, (s1.trans s2).seq hS, by decide, fun H3 s3 => ⟨_, rfl, fun b H4 zs hb s4 hz12 hznd hznm hbl => ?_⟩⟩
    have s04 : Same H H4 := s1.trans (s2.trans (s3.trans s4))
    refine ⟨by show 0 ≤ sizeLine; decide, fun A hA => ?_⟩
    have s5 : Same H4 (upd H4 A (.lst [])) := Same.new hA
    have hA5 : (upd H4 A (.lst [])) A = some (.lst []) := upd_same
    generalize upd H4 A (.lst []) = H5 at s5 hA5
    refine ⟨_, rfl, _, rfl, by omega, by omega, ?_⟩
    refine for_range (fun i σ H' => ∃ v5 xs rs, σ = [some (.ref a), some (.int c0), some (.int mn), some (.ref b), some (.ref A), v5, none, none, none, none, none, none, none, none] ∧ Same H4 H' ∧ H' A = some (.lst xs) ∧ xs.length = i ∧ rs.length = i ∧ Drawn zs rs ∧ ∀ (j : Nat) r, rs[j]? = some r → ∃ v t, xs[j]? = some v ∧ RowTup H' v t r ∧ t ≠ A) ⟨none, [], [], rfl, s5, hA5, rfl, rfl, fun j r e => by simp at e, fun j r e => by simp at e⟩ ?_ ?_
    · rintro i σ H' hi ⟨v5, xs, rs, rfl, sm, hAx, hxl, hrl, hdr, hxt⟩
      have hi12 : i < 12 := by omega
      have ez : zs[i]? = some (zs[i]'(by omega)) := List.getElem?_eq_getElem (by omega)
      have hzi : IsNm (zs[i]'(by omega)) := hznm _ (List.getElem_mem _)
      generalize (zs[i]'(by omega)) = zi at ez hzi
      have eat : atI (zs.map V.str) (0 + (i : Int)) = some (V.str zi) := by rw [Int.zero_add]; exact atI_nat (by rw [List.getElem?_map, ez]; rfl)
      refine ⟨_, rfl, .inl ⟨rfl, _, SqL.of hAx⟩, _, rfl, _, rfl, _, _, rfl, rfl, a, ns, 2 + (0 + (i : Int)), rfl, (s04.trans sm).seq hS, by omega, fun H6 s6 => ⟨_, rfl, _, rfl, b, _, _, _, rfl, rfl, SqL.of ((sm.trans s6) _ _ hbl), eat, _, zi, rfl, hzi, fun v lt H7 r hgr hnm s7 hlt rt => ?_⟩⟩
      have s27 : Same H' H7 := s6.trans s7
      have hA7 := s27 _ _ hAx
      have hltA : lt ≠ A := (ne_of_none (s6 _ _ hAx) hlt).symm
      refine ⟨A, xs, v, rfl, rfl, hA7, Nat.lt_of_lt_of_le (show xs.length < 1000 by omega) big1000, ?_⟩
      refine ⟨_, xs ++ [v], rs ++ [r], rfl, (sm.trans s27).over hA, upd_same, by rw [List.length_append, hxl]; rfl, by rw [List.length_append, hrl]; rfl, fun j q e => ?_, fun j q e => ?_⟩
      · rcases Nat.lt_or_ge j i with k | k
        · rw [List.getElem?_append_left (by omega)] at e
          exact hdr j q e
        · have hj := (List.getElem?_eq_some_iff.mp e).1
          rw [List.length_append, hrl] at hj
          obtain rfl : j = i := by have : j < i + 1 := hj; omega
          rw [List.getElem?_append_right (by omega), hrl, Nat.sub_self] at e
          cases e
          exact ⟨hgr, fun z => by rw [ez, hnm z]⟩
      · rcases Nat.lt_or_ge j i with k | k
        · rw [List.getElem?_append_left (by omega)] at e
          obtain ⟨v2, t2, q1, q2, q3⟩ := hxt j q e
          exact ⟨v2, t2, by rw [List.getElem?_append_left (by omega)]; exact q1, (q2.same s27).upd hA7 q3, q3⟩
        · have hj := (List.getElem?_eq_some_iff.mp e).1
          rw [List.length_append, hrl] at hj
          obtain rfl : j = i := by have : j < i + 1 := hj; omega
          rw [List.getElem?_append_right (by omega), hrl, Nat.sub_self] at e
          cases e
          exact ⟨v, lt, by rw [List.getElem?_append_right (by omega), hxl, Nat.sub_self]; rfl, rt.upd hA7 hltA, hltA⟩
    · rintro σ H6 ⟨v5, xs, rs, rfl, sm, hAx, hxl, hrl, hdr, hxt⟩
      have hx12 : xs.length ≤ 12 := by omega
      have hr12 : rs.length ≤ 12 := by omega
      have hxr : xs.length = rs.length := by omega
      have hg : GoodRs rs := ⟨hr12, fun r hr => by obtain ⟨i, hi, e⟩ := List.getElem_of_mem hr; exact (hdr i r (by rw [List.getElem?_eq_getElem hi, e])).1⟩
      have hap : Apart rs := hdr.apart hznd
      have hta : TupsAt H6 A rs := ⟨xs, hAx, hxr, fun j r e => by obtain ⟨v, t, q1, q2, _⟩ := hxt j r e; exact ⟨v, t, q1, q2⟩⟩
      have htt : ∀ (j : Nat) r, rs[j]? = some r → ∃ v t, xs[j]? = some v ∧ RowTup H6 v t r := fun j r e => by
        obtain ⟨v, t, q1, q2, _⟩ := hxt j r e
        exact ⟨v, t, q1, q2⟩
      clear hxt hdr
      have hxs : xs.length ≤ sizeLine := Nat.le_trans hx12 (by decide)
      refine ⟨_, rfl, c0, rfl, fun ys gys H7 s7 => ?_⟩
      have h36 := gys.len
      refine ⟨rfl, _, rfl, _, _, rfl, rfl, by rw [len_part]; exact Nat.le_trans (Nat.add_le_add_left h36 5) (by decide), by show 1 ≤ sizeLine; decide, fun b1 hb1 => ?_⟩
      have sb : Same H6 (upd H7 b1 (.lst [V.str ("part " ++ dotted ys)])) := s7.put hb1
      refine ⟨_, rfl, A, rfl, ⟨xs, SqL.of (sb _ _ hAx)⟩, ?_⟩
      refine comp_listI (fun i => (rs.map fun r => V.str (saidOf r)).getD i .non) hxs (SqL.of (sb _ _ hAx)) (fun i x H' Q' hx sm2 k => ?_) (fun H8 s8 c hc => ?_)
      · have hi : i < rs.length := by rw [← hxr]; exact (List.getElem?_eq_some_iff.mp hx).1
        obtain ⟨v, t, e2, rt⟩ := htt i rs[i] (List.getElem?_eq_getElem hi)
        obtain rfl : x = v := by rw [hx] at e2; exact Option.some.inj e2
        refine ⟨_, rfl, x, t, rs[i], rfl, rt.same (sb.trans sm2), hg.at (List.getElem?_eq_getElem hi), fun H'' s'' => ?_⟩
        have e : (rs.map fun r => V.str (saidOf r)).getD i .non = V.str (saidOf rs[i]) := by simp [List.getD, hi]
        rw [← e]
        exact k H'' s''
      have em : (List.range xs.length).map (fun i => (rs.map fun r => V.str (saidOf r)).getD i .non) = rs.map fun r => V.str (saidOf r) := by
        apply List.ext_getElem
        · simp [hxr]
        · intro i h1 h2
          have : i < rs.length := by simpa using h2
          simp [this]
      rw [em]
      have hbc : b1 ≠ c := fun z => by rw [z] at s8; exact absurd (s8 _ _ upd_same) (by rw [hc]; intro z; cases z)
      refine ⟨b1, c, _, _, rfl, rfl, by rw [upd_ne hbc]; exact s8 _ _ upd_same, upd_same, by rw [List.length_map]; exact Nat.le_trans (Nat.add_le_add_left hg.hi 1) (by decide), fun d hd => ?_⟩
      have sA : Same H6 (upd H8 c (.lst (rs.map fun r => V.str (saidOf r)))) := (sb.trans s8).put hc
      refine ⟨_, d, ("part " ++ dotted ys) :: rs.map saidOf, rfl, rfl, .inl (SqL.of (upd_same.trans (by rw [List.map_cons, List.map_map]; rfl))), part_bound hg h36, ?_⟩
      have s9 : Same H6 (upd (upd H8 c (.lst (rs.map fun r => V.str (saidOf r)))) d (.lst ([V.str ("part " ++ dotted ys)] ++ rs.map fun r => V.str (saidOf r)))) := sA.put hd
      generalize upd (upd H8 c (.lst (rs.map fun r => V.str (saidOf r)))) d (.lst ([V.str ("part " ++ dotted ys)] ++ rs.map fun r => V.str (saidOf r))) = H9 at s9
      clear em sA hd hbc hc s8 sb hb1
      refine ⟨_, rfl, A, rfl, ⟨xs, SqL.of (s9 _ _ hAx)⟩, ?_⟩
      refine comp_listG (xs := xs) (fun τ => ∃ u, τ = [u]) (fun i v H' => ∃ r x l, rs[i]? = some r ∧ v = V.ref x ∧ RowAt C H' x l r) (fun i v H' H'' ⟨r, x, l, e, e2, ra⟩ s => ⟨r, x, l, e, e2, ra.same s⟩) hxs (SqL.of (s9 _ _ hAx)) ⟨_, rfl⟩ (fun i x τ H' Q' hx sm2 hS2 k' => ?_) (fun hs H10 s10 hyl hys hd hhd => ?_)
      · obtain ⟨u, rfl⟩ := hS2
        have s96 := s9.trans sm2
        obtain ⟨pp, t, hi, rfl, hpp, htm⟩ := tups_at htt hxr hx s96
        obtain ⟨tz, htz, htzl, htzt⟩ := id htm
        refine ⟨_, rfl, _, rfl, pp, _, _, V.ref t, rfl, rfl, SqT.of hpp, rfl, t, _, rfl, .inl (SqL.of htz), fun d hd => ?_⟩
        have s7 : Same H' (upd H' d (.lst tz)) := Same.new hd
        have hdd : (upd H' d (.lst tz)) d = some (.lst tz) := upd_same
        generalize upd H' d (.lst tz) = H11 at s7 hdd
        have htd : TmsAt H11 d rs[i].ts := ⟨tz, hdd, htzl, fun j x e => by obtain ⟨t, et, tm⟩ := htzt j x e; exact ⟨t, et, tm.same s7⟩⟩
        exact ⟨V.ref pp, t, d, rs[i], rfl, ⟨pp, rfl, s7 _ _ hpp, htm.same s7⟩, htd, hg.at (List.getElem?_eq_getElem hi), fun x l H12 s12 hx12 hl12 ra => k' _ _ _ ⟨_, rfl⟩ (s7.trans s12) ⟨rs[i], x, l, List.getElem?_eq_getElem hi, rfl, ra⟩⟩
      have sH : Same H9 (upd H10 hd (.lst hs)) := s10.put hhd
      have hh11 : (upd H10 hd (.lst hs)) hd = some (.lst hs) := upd_same
      have hhd9 : H9 hd = none := s10.free hhd
      have hra : RowsAt C (upd H10 hd (.lst hs)) hd rs := ⟨hs, hh11, by omega, fun i r e => by
        have hi : i < hs.length := by have := (List.getElem?_eq_some_iff.mp e).1; omega
        obtain ⟨r2, x, l, e2, e3, ra⟩ := hys i _ (List.getElem?_eq_getElem hi)
        rw [e] at e2
        cases e2
        exact ⟨x, l, by rw [List.getElem?_eq_getElem hi, e3], ra.same (Same.new hhd)⟩⟩
      have hins : ∀ v ∈ hs, ∃ x D dx fs, v = V.ref x ∧ (upd H10 hd (.lst hs)) x = some (.ins D dx fs) := fun v hv => by
        obtain ⟨i, hi, e⟩ := List.getElem_of_mem hv
        obtain ⟨r2, x, l, e2, e3, dx, fs, e4, _⟩ := hys i _ (List.getElem?_eq_getElem hi)
        exact ⟨x, _, dx, fs, by rw [← e, e3], (Same.new hhd) _ _ e4⟩
      generalize upd H10 hd (.lst hs) = H11 at sH hh11 hra hins
      refine ⟨_, rfl, hd, _, rfl, .inl (SqL.of hh11), fun kp hkp => ?_⟩
      have s12 : Same H11 (upd H11 kp (.lst hs)) := Same.new hkp
      have hk12 : (upd H11 kp (.lst hs)) kp = some (.lst hs) := upd_same
      generalize upd H11 kp (.lst hs) = H12 at s12 hk12
      refine ⟨_, rfl, _, rfl, fun pm dm hpm hdm hne => ?_⟩
      have sn : Same H12 (upd (upd H12 dm (.own pm)) pm (.ins (C 7) dm [])) := new_ins hpm hdm
      refine ⟨pm, dm, dotted ys, hd, rs, rfl, upd_same, hra.same (s12.trans sn), hg, fun lm H13 hlm sb13 pam => ⟨rfl, ?_⟩⟩
      have s13 : Same H12 H13 := fun bb o e => sb13 bb o (sn bb o e) (ne_of_none e hpm)
      have hlmd : lm ≠ hd := (ne_of_none ((s12.trans sn) _ _ hh11) hlm).symm
      have hh13 := s13 _ _ (s12 _ _ hh11)
      have hk13 := s13 _ _ hk12
      have hins13 : ∀ v ∈ hs, ∃ x D dx fs, v = V.ref x ∧ H13 x = some (.ins D dx fs) := fun v hv => by
        obtain ⟨x, D, dx, fs, e, e2⟩ := hins v hv
        exact ⟨x, D, dx, fs, e, (s12.trans s13) _ _ e2⟩
      refine ⟨_, rfl, _, rfl, hd, kp, rfl, rfl, dsq_same hh13 hk13 (fun v hv => by obtain ⟨x, _, _, _, e, _⟩ := hins v hv; exact .inr ⟨x, e⟩), _, rfl, iteF ?_⟩
      refine ⟨_, rfl, .inl ⟨rfl, _, SqL.of hh13⟩, hd, _, rfl, rfl, hh13, ?_⟩
      have s14 : Same H9 (upd H13 hd (.lst [])) := (sH.trans (s12.trans s13)).over hhd9
      have pm14 : PartAt C (upd H13 hd (.lst [])) pm (dotted ys) lm rs := pam.clear hg hh13 hlmd hins13
      generalize upd H13 hd (.lst []) = H14 at s14 pm14
      have ht14 : TupsAt H14 A rs := hta.same (s9.trans s14)
      clear hins hins13 hh13 hk13 hra hys s13 sn hk12 hh11 sH
      refine ⟨_, rfl, ys, rs, rfl, gys, hg, hap, fun pf lf H15 s15 hpf hlf paf => ?_⟩
      refine ⟨[("a" : Str)], [r0], congrArg (fun z => [V.str z]) tx0.symm, ga0, grs0, ap0, fun po lo H16 s16 hpo hlo pao => ?_⟩
      have s46 : Same H14 H16 := s15.trans s16
      refine ⟨_, rfl, _, rfl, _, rfl, pf, dotted ys, lf, A, rs, rfl, paf.same s16, ht14.same s46, hg, hap, fun H17 s17 => ⟨_, rfl, iteF ⟨_, rfl, _, rfl, _, rfl, pm, dotted ys, lm, A, rs, rfl, pm14.same (s46.trans s17), ht14.same (s46.trans s17), hg, hap, fun H18 s18 => ⟨_, rfl, iteF ?_⟩⟩⟩⟩
      have s68 : Same H16 H18 := s17.trans s18
      obtain ⟨dxo, fso, eo, _, _, n3, n4, n5, _⟩ := id pao
      have a1 : (dotted [("a" : Str)]).length ≤ 36 := ga0.len
      refine ⟨_, rfl, po, dxo, fso, rfl, s68 _ _ eo, n4, po, dotted ["a"], lo, [r0], "b", rfl, pao.same s68, grs0, fun H19 s19 => ⟨by rw [pl0]; rfl, _, rfl, iteNe pl0 ?_⟩⟩
      have s69 := s68.trans s19
      refine ⟨_, rfl, po, dxo, fso, rfl, s69 _ _ eo, n3, po, dotted ["a"], lo, [r0], rfl, pao.same s69, grs0, fun c2 H20 hc2 s20 hc2l => ⟨by show 1 ≤ sizeLine; decide, fun e2 he2 => ⟨c2, e2, rfl, rfl, dsq_strs (bs := ["b"]) (((Same.new he2) _ _ hc2l).trans (by rw [nv0])) upd_same, _, rfl, iteF ?_⟩⟩⟩
      have s70 : Same H16 (upd H20 e2 (.lst [V.str "b"])) := (s69.trans s20).put he2
      generalize upd H20 e2 (.lst [V.str "b"]) = H21 at s70
      refine ⟨_, rfl, po, dxo, fso, rfl, s70 _ _ eo, n5, po, dotted ["a"], lo, [r0], rfl, pao.same s70, grs0, a1, fun H22 s22 => ⟨rfl, _, rfl, iteNe (congrArg V.str tx0) ?_⟩⟩
      have s42 : Same H14 H22 := s46.trans (s70.trans s22)
      refine ⟨_, rfl, _, rfl, _, rfl, ys, rs, rfl, gys, hg, hap, fun p3 l3 H23 s23 hp3 hl3 pa3 => ⟨by show 3 ≤ sizeLine; decide, fun w hw => ⟨w, rfl, ⟨_, SqL.of upd_same⟩, ?_⟩⟩⟩
      have sw : Same H23 (upd H23 w (.lst [V.ref pf, V.ref pm, V.ref p3])) := Same.new hw
      have hww : (upd H23 w (.lst [V.ref pf, V.ref pm, V.ref p3])) w = some (.lst [V.ref pf, V.ref pm, V.ref p3]) := upd_same
      have s4w : Same H14 (upd H23 w (.lst [V.ref pf, V.ref pm, V.ref p3])) := (s42.trans s23).trans sw
      have hall : ∀ (j : Nat) x, [V.ref pf, V.ref pm, V.ref p3][j]? = some x → ∃ p l, x = V.ref p ∧ PartAt C (upd H23 w (.lst [V.ref pf, V.ref pm, V.ref p3])) p (dotted ys) l rs := fun j x e => by
        match j, e with
        | 0, e => cases e; exact ⟨pf, lf, rfl, paf.same (s16.trans (s70.trans (s22.trans (s23.trans sw))))⟩
        | 1, e => cases e; exact ⟨pm, lm, rfl, pm14.same s4w⟩
        | 2, e => cases e; exact ⟨p3, l3, rfl, pa3.same sw⟩
        | n + 3, e => simp at e
      have htw : TupsAt (upd H23 w (.lst [V.ref pf, V.ref pm, V.ref p3])) A rs := ht14.same s4w
      generalize upd H23 w (.lst [V.ref pf, V.ref pm, V.ref p3]) = H24 at sw hww s4w hall htw
      refine for_list (xs := [V.ref pf, V.ref pm, V.ref p3]) (fun j σ H' => ∃ u13, σ = [some (.ref a), some (.int c0), some (.int mn), some (.ref b), some (.ref A), v5, some (.str (dotted ys)), some (.str (partText (dotted ys) rs)), some (.ref hd), some (.ref kp), some (.ref pm), some (.ref pf), some (.ref po), u13] ∧ Same H24 H') ⟨none, rfl, Same.refl _⟩ ?_ ?_ ?_
      · rintro j σ H' _ ⟨u13, rfl, sj⟩
        exact SqL.of (sj _ _ hww)
      · rintro j x σ H' hx ⟨u13, rfl, sj⟩
        obtain ⟨p, l, rfl, pa⟩ := hall j x hx
        obtain ⟨dx, fs, ep, _, _, _, _, n6, _⟩ := id pa
        refine ⟨_, rfl, p, dx, fs, rfl, sj _ _ ep, n6, p, dotted ys, l, rs, rfl, pa.same sj, hg, h36, fun H3 s3 => ⟨_, _, _, _, rfl, .str _, kit_same, _, rfl, iteF ⟨_, rfl, p, dx, fs, rfl, (sj.trans s3) _ _ ep, n6, p, dotted ys, l, rs, rfl, pa.same (sj.trans s3), hg, h36, fun H4 s4 => ⟨_, rfl, rfl, _, rfl, iteNe rfl ⟨_, rfl, _, rfl, _, rfl, p, dotted ys, l, A, rs, rfl, pa.same (sj.trans (s3.trans s4)), htw.same (sj.trans (s3.trans s4)), hg, hap, fun H5 s5 => ⟨_, rfl, iteF ?_⟩⟩⟩⟩⟩⟩
        exact ⟨_, rfl, sj.trans (s3.trans (s4.trans s5))⟩
      · rintro σ H' ⟨u13, rfl, sj⟩
        exact q _

end

noncomputable def FI (K : PySem.W.Frag) (x : Str) (st : Stmt) : Prop := ∃ f fd, PySem.W.nsIn K mainGlobals x = some (some (.ref f)) ∧ Fun K x x st f fd
theorem fi {K : PySem.W.Frag} {x : Str} {st : Stmt} {f : Addr} {oc : Value} {od an : Option Addr} {osl : Array (Option Value)} {kV doc pm cdv ct : Value} (a : PySem.W.nsIn K mainGlobals x = some (some (.ref f))) (l : K.lookup f = some ⟨oc, od, .func (PySem.W.fnOf x x (defArgs st) (defBody st) (defScope st) .none kV doc pm an cdv ct), osl⟩) (c : PySem.W.codeIn K cdv x = true) (k : PySem.W.keepIn K (.ref f) = true) : FI K x st := ⟨f, _, a, fun_mk l c k⟩
noncomputable def MI (K : PySem.W.Frag) (g : Addr) (x q : Str) (st : Stmt) : Prop := (∃ fd, Fun K x q st g fd) ∧ PySem.W.isFn K (.ref g) = true ∧ PySem.W.keepIn K (.ref g) = true
theorem mi {K : PySem.W.Frag} {x q : Str} {st : Stmt} {f : Addr} {oc : Value} {od an : Option Addr} {osl : Array (Option Value)} {kV doc pm cdv ct : Value} (l : K.lookup f = some ⟨oc, od, .func (PySem.W.fnOf x q (defArgs st) (defBody st) (defScope st) .none kV doc pm an cdv ct), osl⟩) (c : PySem.W.codeIn K cdv q = true) (k : PySem.W.keepIn K (.ref f) = true) (i : PySem.W.isFn K (.ref f) = true) : MI K f x q st := ⟨⟨_, fun_mk l c k⟩, i, k⟩
structure CI (K : PySem.W.Frag) (C : Addr) (x : Str) : Prop where
  A : PySem.W.nsIn K mainGlobals x = some (some (.ref C))
  pg : PySem.W.plainGet K C Str.empty = true
  hd : PySem.W.hasDictIn K C = true
  po : PySem.W.plainOver K C = true
  sa : PySem.W.findIn K (.ref C) "__setattr__" = some (some (.builtin "object.__setattr__"))
  mq : PySem.W.makesIn K C = true
  kc : PySem.W.keepIn K (.ref C) = true
  ca : PySem.W.findIn K (.ref C) "__class__" = some (some (.builtin "object.__class__"))
  mo : PySem.W.mroIn K C (.type "object") = some true
  ty : PySem.W.typeIn K (.ref C) = some (.type "type")
  mm : PySem.W.mroIn K C (.ref C) = some true
noncomputable def BA (x q : Str) (st : Stmt) (ps : List Str) (n : Nat) : Prop := ∀ (kV doc pm : Value) (an : Option Addr) (cdv ct : Value) (us : List Value), us.length = n → bindArgs (PySem.W.fnOf x q (defArgs st) (defBody st) (defScope st) .none kV doc pm an cdv ct) ⟨us, []⟩ = pure (ps.zip us)
theorem ba1 {x q : Str} {st : Stmt} {ps : List Str} (h : ∀ (kV doc pm : Value) (an : Option Addr) (cdv ct a : Value), bindArgs (PySem.W.fnOf x q (defArgs st) (defBody st) (defScope st) .none kV doc pm an cdv ct) ⟨[a], []⟩ = pure (ps.zip [a])) : BA x q st ps 1 := fun _ _ _ _ _ _ us hl => by obtain ⟨a, rfl⟩ := len1 hl; exact h ..
theorem ba2 {x q : Str} {st : Stmt} {ps : List Str} (h : ∀ (kV doc pm : Value) (an : Option Addr) (cdv ct a b : Value), bindArgs (PySem.W.fnOf x q (defArgs st) (defBody st) (defScope st) .none kV doc pm an cdv ct) ⟨[a, b], []⟩ = pure (ps.zip [a, b])) : BA x q st ps 2 := fun _ _ _ _ _ _ us hl => by obtain ⟨a, b, rfl⟩ := len2 hl; exact h ..
theorem ba3 {x q : Str} {st : Stmt} {ps : List Str} (h : ∀ (kV doc pm : Value) (an : Option Addr) (cdv ct a b c : Value), bindArgs (PySem.W.fnOf x q (defArgs st) (defBody st) (defScope st) .none kV doc pm an cdv ct) ⟨[a, b, c], []⟩ = pure (ps.zip [a, b, c])) : BA x q st ps 3 := fun _ _ _ _ _ _ us hl => by obtain ⟨a, b, c, rfl⟩ := len3 hl; exact h ..
theorem ba4 {x q : Str} {st : Stmt} {ps : List Str} (h : ∀ (kV doc pm : Value) (an : Option Addr) (cdv ct a b c d : Value), bindArgs (PySem.W.fnOf x q (defArgs st) (defBody st) (defScope st) .none kV doc pm an cdv ct) ⟨[a, b, c, d], []⟩ = pure (ps.zip [a, b, c, d])) : BA x q st ps 4 := fun _ _ _ _ _ _ us hl => by obtain ⟨a, b, c, d, rfl⟩ := len4 hl; exact h ..
theorem fat {K : PySem.W.Frag} {h : Heap} {mg : Str → Option Value} {x : Str} {st : Stmt} {ps : List Str} (X : K.In h) (G : h.Ns mainGlobals mg) (b : BA x x st ps ps.length) (i : FI K x st) : ∃ f fd, FnAt K mg x st ps f fd := by
  obtain ⟨f, fd, a, F⟩ := i
  exact ⟨f, fd, F, F.binds b, PySem.W.mg_of X G a⟩
theorem mat0 {K : PySem.W.Frag} {g : Addr} {x q : Str} {st : Stmt} {ps : List Str} {p : Addr → Prop} (b : BA x q st ps ps.length) (i : MI K g x q st) (z : PySem.W.isFn K (.ref g) = true → PySem.W.keepIn K (.ref g) = true → p g) : ∃ f fd, MAt K x q st ps f fd ∧ p f := by
  obtain ⟨⟨fd, F⟩, i1, i2⟩ := i
  exact ⟨g, fd, ⟨F, F.binds b⟩, z i1 i2⟩

theorem all_mk {l : PySem.W.OpenLaw} {w : World} {K : PySem.W.Frag} {h : Heap} {mg : Str → Option Value} {fa g0 g1 g2 g3 g4 g5 g6 g7 g8 g9 g10 g11 g12 g13 g14 g15 g16 g17 g18 g19 g20 g21 g22 g23 g24 g25 g26 C0 C1 C2 C3 C4 C5 C6 C7 : Addr} (X : K.In h) (G : h.Ns mainGlobals mg) (hfa : mg "law" = some (.ref fa))
    {tk0 tk1 tk2 tk3 tk4 tk5 tk6 tk7 : Tok}
    (h0 : FI K "show_term" s_show_term)
    (h1 : FI K "show_expr" s_show_expr)
    (h2 : FI K "is_name" s_is_name)
    (h3 : FI K "are_names" s_are_names)
    (h4 : FI K "is_address" s_is_address)
    (h5 : FI K "is_number" s_is_number)
    (h6 : FI K "read_path" s_read_path)
    (h7 : FI K "read_term" s_read_term)
    (h8 : FI K "read_sign" s_read_sign)
    (h9 : FI K "read_expr" s_read_expr)
    (h10 : FI K "has_call" s_has_call)
    (h11 : FI K "names_expr" s_names_expr)
    (h12 : FI K "names_address" s_names_address)
    (h13 : FI K "names_word" s_names_word)
    (h14 : FI K "terms_from" s_terms_from)
    (h15 : FI K "deed_of" s_deed_of)
    (h16 : FI K "row_of" s_row_of)
    (h17 : FI K "row_at" s_row_at)
    (h18 : FI K "read_head" s_read_head)
    (h19 : FI K "read_part" s_read_part)
    (h20 : FI K "_law_cell" s_law_cell)
    (h21 : FI K "_law_sub" s_law_sub)
    (h22 : FI K "_law_number" s_law_number)
    (h23 : FI K "_law_pick" s_law_pick)
    (h24 : FI K "_law_name" s_law_name)
    (h25 : FI K "_law_names" s_law_names)
    (h26 : FI K "_law_label" s_law_label)
    (h27 : FI K "_law_address" s_law_address)
    (h28 : FI K "_law_term" s_law_term)
    (h29 : FI K "_law_terms" s_law_terms)
    (h30 : FI K "_law_word" s_law_word)
    (h31 : FI K "_law_text" s_law_text)
    (h32 : FI K "_law_row" s_law_row)
    (h33 : FI K "_law_said" s_law_said)
    (h34 : FI K "_law_whole" s_law_whole)
    (h35 : FI K "_law_term_is" s_law_term_is)
    (h36 : FI K "_law_terms_are" s_law_terms_are)
    (h37 : FI K "_law_is" s_law_is)
    (h38 : FI K "_law_says" s_law_says)
    (h39 : FI K "_law_made" s_law_made)
    (h40 : FI K "_law_strange" s_law_strange)
    (h41 : FI K "_law_holds" s_law_holds)
    (h42 : FI K "law" s_law)
    (D0 : CI K C0 "Let")
    (D1 : CI K C1 "Deed")
    (D2 : CI K C2 "Draw")
    (D3 : CI K C3 "Late")
    (D4 : CI K C4 "Take")
    (D5 : CI K C5 "Need")
    (D6 : CI K C6 "Row")
    (D7 : CI K C7 "Part")
    (nf0x0 : PySem.W.findIn K (.ref C0) "name" = some none)
    (nf0x1 : PySem.W.findIn K (.ref C0) "terms" = some none)
    (nf0x2 : PySem.W.findIn K (.ref C0) "address" = some none)
    (nf0x3 : PySem.W.findIn K (.ref C0) "word" = some none)
    (mm0x1 : PySem.W.mroIn K C0 (.ref C1) = some false)
    (mm0x2 : PySem.W.mroIn K C0 (.ref C2) = some false)
    (mm0x3 : PySem.W.mroIn K C0 (.ref C3) = some false)
    (mm0x4 : PySem.W.mroIn K C0 (.ref C4) = some false)
    (mm0x5 : PySem.W.mroIn K C0 (.ref C5) = some false)
    (mm0x6 : PySem.W.mroIn K C0 (.ref C6) = some true)
    (nf1x0 : PySem.W.findIn K (.ref C1) "name" = some none)
    (nf1x1 : PySem.W.findIn K (.ref C1) "terms" = some none)
    (nf1x2 : PySem.W.findIn K (.ref C1) "address" = some none)
    (nf1x3 : PySem.W.findIn K (.ref C1) "word" = some none)
    (mm1x0 : PySem.W.mroIn K C1 (.ref C0) = some false)
    (mm1x2 : PySem.W.mroIn K C1 (.ref C2) = some false)
    (mm1x3 : PySem.W.mroIn K C1 (.ref C3) = some false)
    (mm1x4 : PySem.W.mroIn K C1 (.ref C4) = some false)
    (mm1x5 : PySem.W.mroIn K C1 (.ref C5) = some false)
    (mm1x6 : PySem.W.mroIn K C1 (.ref C6) = some true)
    (nf2x0 : PySem.W.findIn K (.ref C2) "name" = some none)
    (nf2x1 : PySem.W.findIn K (.ref C2) "terms" = some none)
    (nf2x2 : PySem.W.findIn K (.ref C2) "address" = some none)
    (nf2x3 : PySem.W.findIn K (.ref C2) "word" = some none)
    (mm2x0 : PySem.W.mroIn K C2 (.ref C0) = some false)
    (mm2x1 : PySem.W.mroIn K C2 (.ref C1) = some false)
    (mm2x3 : PySem.W.mroIn K C2 (.ref C3) = some false)
    (mm2x4 : PySem.W.mroIn K C2 (.ref C4) = some false)
    (mm2x5 : PySem.W.mroIn K C2 (.ref C5) = some false)
    (mm2x6 : PySem.W.mroIn K C2 (.ref C6) = some true)
    (nf3x0 : PySem.W.findIn K (.ref C3) "name" = some none)
    (nf3x1 : PySem.W.findIn K (.ref C3) "terms" = some none)
    (nf3x2 : PySem.W.findIn K (.ref C3) "address" = some none)
    (nf3x3 : PySem.W.findIn K (.ref C3) "word" = some none)
    (mm3x0 : PySem.W.mroIn K C3 (.ref C0) = some false)
    (mm3x1 : PySem.W.mroIn K C3 (.ref C1) = some false)
    (mm3x2 : PySem.W.mroIn K C3 (.ref C2) = some false)
    (mm3x4 : PySem.W.mroIn K C3 (.ref C4) = some false)
    (mm3x5 : PySem.W.mroIn K C3 (.ref C5) = some false)
    (mm3x6 : PySem.W.mroIn K C3 (.ref C6) = some true)
    (nf4x0 : PySem.W.findIn K (.ref C4) "name" = some none)
    (nf4x1 : PySem.W.findIn K (.ref C4) "terms" = some none)
    (nf4x2 : PySem.W.findIn K (.ref C4) "address" = some none)
    (nf4x3 : PySem.W.findIn K (.ref C4) "word" = some none)
    (mm4x0 : PySem.W.mroIn K C4 (.ref C0) = some false)
    (mm4x1 : PySem.W.mroIn K C4 (.ref C1) = some false)
    (mm4x2 : PySem.W.mroIn K C4 (.ref C2) = some false)
    (mm4x3 : PySem.W.mroIn K C4 (.ref C3) = some false)
    (mm4x5 : PySem.W.mroIn K C4 (.ref C5) = some false)
    (mm4x6 : PySem.W.mroIn K C4 (.ref C6) = some true)
    (nf5x0 : PySem.W.findIn K (.ref C5) "name" = some none)
    (nf5x1 : PySem.W.findIn K (.ref C5) "terms" = some none)
    (nf5x2 : PySem.W.findIn K (.ref C5) "address" = some none)
    (nf5x3 : PySem.W.findIn K (.ref C5) "word" = some none)
    (mm5x0 : PySem.W.mroIn K C5 (.ref C0) = some false)
    (mm5x1 : PySem.W.mroIn K C5 (.ref C1) = some false)
    (mm5x2 : PySem.W.mroIn K C5 (.ref C2) = some false)
    (mm5x3 : PySem.W.mroIn K C5 (.ref C3) = some false)
    (mm5x4 : PySem.W.mroIn K C5 (.ref C4) = some false)
    (mm5x6 : PySem.W.mroIn K C5 (.ref C6) = some true)
    (nf6x0 : PySem.W.findIn K (.ref C6) "name" = some none)
    (nf6x1 : PySem.W.findIn K (.ref C6) "terms" = some none)
    (nf6x2 : PySem.W.findIn K (.ref C6) "address" = some none)
    (nf6x3 : PySem.W.findIn K (.ref C6) "word" = some none)
    (mm6x0 : PySem.W.mroIn K C6 (.ref C0) = some false)
    (mm6x1 : PySem.W.mroIn K C6 (.ref C1) = some false)
    (mm6x2 : PySem.W.mroIn K C6 (.ref C2) = some false)
    (mm6x3 : PySem.W.mroIn K C6 (.ref C3) = some false)
    (mm6x4 : PySem.W.mroIn K C6 (.ref C4) = some false)
    (mm6x5 : PySem.W.mroIn K C6 (.ref C5) = some false)
    (nf7x0 : PySem.W.findIn K (.ref C7) "address" = some none)
    (nf7x1 : PySem.W.findIn K (.ref C7) "rows" = some none)
    (u0x7 : PySem.W.findIn K (.ref C7) "__init__" = some (some (.ref g0)))
    (j0 : MI K g0 "__init__" "Part.__init__" s_m_Part___init__)
    (u1x7 : PySem.W.findIn K (.ref C7) "bound" = some (some (.ref g1)))
    (j1 : MI K g1 "bound" "Part.bound" s_m_Part_bound)
    (u2x7 : PySem.W.findIn K (.ref C7) "place_of" = some (some (.ref g2)))
    (j2 : MI K g2 "place_of" "Part.place_of" s_m_Part_place_of)
    (u3x7 : PySem.W.findIn K (.ref C7) "text" = some (some (.ref g3)))
    (j3 : MI K g3 "text" "Part.text" s_m_Part_text)
    (u4x5 : PySem.W.findIn K (.ref C5) "binds" = some (some (.ref g4)))
    (u4x6 : PySem.W.findIn K (.ref C6) "binds" = some (some (.ref g4)))
    (j4 : MI K g4 "binds" "Row.binds" s_m_Row_binds)
    (u5x0 : PySem.W.findIn K (.ref C0) "asked" = some (some (.ref g5)))
    (u5x1 : PySem.W.findIn K (.ref C1) "asked" = some (some (.ref g5)))
    (u5x5 : PySem.W.findIn K (.ref C5) "asked" = some (some (.ref g5)))
    (u5x6 : PySem.W.findIn K (.ref C6) "asked" = some (some (.ref g5)))
    (j5 : MI K g5 "asked" "Row.asked" s_m_Row_asked)
    (u6x6 : PySem.W.findIn K (.ref C6) "said" = some (some (.ref g6)))
    (j6 : MI K g6 "said" "Row.said" s_m_Row_said)
    (u7x0 : PySem.W.findIn K (.ref C0) "__init__" = some (some (.ref g7)))
    (j7 : MI K g7 "__init__" "Let.__init__" s_m_Let___init__)
    (u8x0 : PySem.W.findIn K (.ref C0) "binds" = some (some (.ref g8)))
    (j8 : MI K g8 "binds" "Let.binds" s_m_Let_binds)
    (u9x0 : PySem.W.findIn K (.ref C0) "said" = some (some (.ref g9)))
    (j9 : MI K g9 "said" "Let.said" s_m_Let_said)
    (u10x1 : PySem.W.findIn K (.ref C1) "__init__" = some (some (.ref g10)))
    (j10 : MI K g10 "__init__" "Deed.__init__" s_m_Deed___init__)
    (u11x1 : PySem.W.findIn K (.ref C1) "binds" = some (some (.ref g11)))
    (j11 : MI K g11 "binds" "Deed.binds" s_m_Deed_binds)
    (u12x1 : PySem.W.findIn K (.ref C1) "said" = some (some (.ref g12)))
    (j12 : MI K g12 "said" "Deed.said" s_m_Deed_said)
    (u13x2 : PySem.W.findIn K (.ref C2) "__init__" = some (some (.ref g13)))
    (j13 : MI K g13 "__init__" "Draw.__init__" s_m_Draw___init__)
    (u14x2 : PySem.W.findIn K (.ref C2) "binds" = some (some (.ref g14)))
    (j14 : MI K g14 "binds" "Draw.binds" s_m_Draw_binds)
    (u15x2 : PySem.W.findIn K (.ref C2) "asked" = some (some (.ref g15)))
    (j15 : MI K g15 "asked" "Draw.asked" s_m_Draw_asked)
    (u16x2 : PySem.W.findIn K (.ref C2) "said" = some (some (.ref g16)))
    (j16 : MI K g16 "said" "Draw.said" s_m_Draw_said)
    (u17x3 : PySem.W.findIn K (.ref C3) "__init__" = some (some (.ref g17)))
    (j17 : MI K g17 "__init__" "Late.__init__" s_m_Late___init__)
    (u18x3 : PySem.W.findIn K (.ref C3) "binds" = some (some (.ref g18)))
    (j18 : MI K g18 "binds" "Late.binds" s_m_Late_binds)
    (u19x3 : PySem.W.findIn K (.ref C3) "asked" = some (some (.ref g19)))
    (j19 : MI K g19 "asked" "Late.asked" s_m_Late_asked)
    (u20x3 : PySem.W.findIn K (.ref C3) "said" = some (some (.ref g20)))
    (j20 : MI K g20 "said" "Late.said" s_m_Late_said)
    (u21x4 : PySem.W.findIn K (.ref C4) "__init__" = some (some (.ref g21)))
    (j21 : MI K g21 "__init__" "Take.__init__" s_m_Take___init__)
    (u22x4 : PySem.W.findIn K (.ref C4) "binds" = some (some (.ref g22)))
    (j22 : MI K g22 "binds" "Take.binds" s_m_Take_binds)
    (u23x4 : PySem.W.findIn K (.ref C4) "asked" = some (some (.ref g23)))
    (j23 : MI K g23 "asked" "Take.asked" s_m_Take_asked)
    (u24x4 : PySem.W.findIn K (.ref C4) "said" = some (some (.ref g24)))
    (j24 : MI K g24 "said" "Take.said" s_m_Take_said)
    (u25x5 : PySem.W.findIn K (.ref C5) "__init__" = some (some (.ref g25)))
    (j25 : MI K g25 "__init__" "Need.__init__" s_m_Need___init__)
    (u26x5 : PySem.W.findIn K (.ref C5) "said" = some (some (.ref g26)))
    (j26 : MI K g26 "said" "Need.said" s_m_Need_said)
    (oi : PySem.W.findIn K (.ref C6) "__init__" = some (some (.builtin "object.__init__")))
    (cg : PySem.W.specialIn K (.builtin "object.__class__") "__get__" = some (some (.builtin "getset_descriptor.__get__")))
    (ctk : PySem.W.takesIn K (.builtin "object.__class__") = some true)
    (gc0 : PySem.W.nsIn K mainGlobals "LETTERS" = some (some (.str "abcdefghijklmnopqrstuvwxyz" tk0)))
    (gc1 : PySem.W.nsIn K mainGlobals "MOST_LETTERS" = some (some (.int 8 tk1)))
    (gc2 : PySem.W.nsIn K mainGlobals "MOST_NAMES" = some (some (.int 3 tk2)))
    (gc3 : PySem.W.nsIn K mainGlobals "FIGURES" = some (some (.str "0123456789" tk3)))
    (gc4 : PySem.W.nsIn K mainGlobals "MOST_FIGURES" = some (some (.int 20 tk4)))
    (gc5 : PySem.W.nsIn K mainGlobals "MOST_TERMS" = some (some (.int 6 tk5)))
    (gc6 : PySem.W.nsIn K mainGlobals "MOST_STEPS" = some (some (.int 4 tk6)))
    (gc7 : PySem.W.nsIn K mainGlobals "MOST_ROWS" = some (some (.int 12 tk7)))
    (z0 : PySem.W.nsIn K mainGlobals "any" = some none)
    (z1 : PySem.W.nsIn K mainGlobals "enumerate" = some none)
    (z2 : PySem.W.nsIn K mainGlobals "len" = some none)
    (z3 : PySem.W.nsIn K mainGlobals "range" = some none)
    (z4 : PySem.W.nsIn K mainGlobals "isinstance" = some none)
    (z5 : PySem.W.nsIn K mainGlobals "str" = some none)
    (z6 : PySem.W.nsIn K mainGlobals "int" = some none)
    (z7 : PySem.W.nsIn K mainGlobals "bool" = some none)
    (z8 : PySem.W.nsIn K mainGlobals "list" = some none)
    (z9 : PySem.W.nsIn K mainGlobals "tuple" = some none)
    (z10 : PySem.W.nsIn K mainGlobals "all" = some none)
    (z11 : PySem.W.nsIn K mainGlobals "max" = some none)
    (z12 : PySem.W.nsIn K mainGlobals "min" = some none)
    (z13 : PySem.W.nsIn K mainGlobals "zip" = some none) :
    ∃ fd : FuncData, (∀ (s : Shared) (v : Value), BindsTo s fd ⟨[v], []⟩ [("_law_script", v)]) ∧ ∀ base : Heap, K.In base → base.Ns mainGlobals mg → FnOk l.prog w K mg base CX0 10 fa fd ["_law_script"] (spLaw K) := by
  have R0 : RCl K C0 := ⟨⟨D0.pg, D0.hd, D0.po, D0.sa⟩, D0.ca, cg, ctk, D0.mo⟩
  have R1 : RCl K C1 := ⟨⟨D1.pg, D1.hd, D1.po, D1.sa⟩, D1.ca, cg, ctk, D1.mo⟩
  have R2 : RCl K C2 := ⟨⟨D2.pg, D2.hd, D2.po, D2.sa⟩, D2.ca, cg, ctk, D2.mo⟩
  have R3 : RCl K C3 := ⟨⟨D3.pg, D3.hd, D3.po, D3.sa⟩, D3.ca, cg, ctk, D3.mo⟩
  have R4 : RCl K C4 := ⟨⟨D4.pg, D4.hd, D4.po, D4.sa⟩, D4.ca, cg, ctk, D4.mo⟩
  have R5 : RCl K C5 := ⟨⟨D5.pg, D5.hd, D5.po, D5.sa⟩, D5.ca, cg, ctk, D5.mo⟩
  have R6 : RCl K C6 := ⟨⟨D6.pg, D6.hd, D6.po, D6.sa⟩, D6.ca, cg, ctk, D6.mo⟩
  have R7 : RCl K C7 := ⟨⟨D7.pg, D7.hd, D7.po, D7.sa⟩, D7.ca, cg, ctk, D7.mo⟩
  have FM : RFam K (fun i => [C0, C1, C2, C3, C4, C5, C6, C7].getD i 0) := ⟨all7 R0 R1 R2 R3 R4 R5 R6, fun i j h1 h2 => all7 (p := fun i => ∀ j, j ≤ 6 → PySem.W.kitOne K (.ref ([C0, C1, C2, C3, C4, C5, C6, C7].getD i 0)) (.ref ([C0, C1, C2, C3, C4, C5, C6, C7].getD j 0)) = some (kitv i j)) (all7 (kit_own D0.mm D0.mm D0.mo D0.ty) (kit_own mm0x1 D1.mm D1.mo D1.ty) (kit_own mm0x2 D2.mm D2.mo D2.ty) (kit_own mm0x3 D3.mm D3.mo D3.ty) (kit_own mm0x4 D4.mm D4.mo D4.ty) (kit_own mm0x5 D5.mm D5.mo D5.ty) (kit_own mm0x6 D6.mm D6.mo D6.ty)) (all7 (kit_own mm1x0 D0.mm D0.mo D0.ty) (kit_own D1.mm D1.mm D1.mo D1.ty) (kit_own mm1x2 D2.mm D2.mo D2.ty) (kit_own mm1x3 D3.mm D3.mo D3.ty) (kit_own mm1x4 D4.mm D4.mo D4.ty) (kit_own mm1x5 D5.mm D5.mo D5.ty) (kit_own mm1x6 D6.mm D6.mo D6.ty)) (all7 (kit_own mm2x0 D0.mm D0.mo D0.ty) (kit_own mm2x1 D1.mm D1.mo D1.ty) (kit_own D2.mm D2.mm D2.mo D2.ty) (kit_own mm2x3 D3.mm D3.mo D3.ty) (kit_own mm2x4 D4.mm D4.mo D4.ty) (kit_own mm2x5 D5.mm D5.mo D5.ty) (kit_own mm2x6 D6.mm D6.mo D6.ty)) (all7 (kit_own mm3x0 D0.mm D0.mo D0.ty) (kit_own mm3x1 D1.mm D1.mo D1.ty) (kit_own mm3x2 D2.mm D2.mo D2.ty) (kit_own D3.mm D3.mm D3.mo D3.ty) (kit_own mm3x4 D4.mm D4.mo D4.ty) (kit_own mm3x5 D5.mm D5.mo D5.ty) (kit_own mm3x6 D6.mm D6.mo D6.ty)) (all7 (kit_own mm4x0 D0.mm D0.mo D0.ty) (kit_own mm4x1 D1.mm D1.mo D1.ty) (kit_own mm4x2 D2.mm D2.mo D2.ty) (kit_own mm4x3 D3.mm D3.mo D3.ty) (kit_own D4.mm D4.mm D4.mo D4.ty) (kit_own mm4x5 D5.mm D5.mo D5.ty) (kit_own mm4x6 D6.mm D6.mo D6.ty)) (all7 (kit_own mm5x0 D0.mm D0.mo D0.ty) (kit_own mm5x1 D1.mm D1.mo D1.ty) (kit_own mm5x2 D2.mm D2.mo D2.ty) (kit_own mm5x3 D3.mm D3.mo D3.ty) (kit_own mm5x4 D4.mm D4.mo D4.ty) (kit_own D5.mm D5.mm D5.mo D5.ty) (kit_own mm5x6 D6.mm D6.mo D6.ty)) (all7 (kit_own mm6x0 D0.mm D0.mo D0.ty) (kit_own mm6x1 D1.mm D1.mo D1.ty) (kit_own mm6x2 D2.mm D2.mo D2.ty) (kit_own mm6x3 D3.mm D3.mo D3.ty) (kit_own mm6x4 D4.mm D4.mo D4.ty) (kit_own mm6x5 D5.mm D5.mo D5.ty) (kit_own D6.mm D6.mm D6.mo D6.ty)) i h1 j h2, all7 nf0x0 nf1x0 nf2x0 nf3x0 nf4x0 nf5x0 nf6x0, all7 nf0x1 nf1x1 nf2x1 nf3x1 nf4x1 nf5x1 nf6x1, all7 nf0x2 nf1x2 nf2x2 nf3x2 nf4x2 nf5x2 nf6x2, all7 nf0x3 nf1x3 nf2x3 nf3x3 nf4x3 nf5x3 nf6x3⟩
  have TT : Tx K mg (fun i => [C0, C1, C2, C3, C4, C5, C6, C7].getD i 0) := ⟨PySem.W.mg_none_of X G z0, PySem.W.mg_none_of X G z1, PySem.W.mg_none_of X G z2, PySem.W.mg_none_of X G z3, PySem.W.mg_none_of X G z4, PySem.W.mg_none_of X G z5, PySem.W.mg_none_of X G z6, PySem.W.mg_none_of X G z7, PySem.W.mg_none_of X G z8, PySem.W.mg_none_of X G z9, PySem.W.mg_none_of X G z10, PySem.W.mg_none_of X G z11, PySem.W.mg_none_of X G z12, PySem.W.mg_none_of X G z13, ⟨_, PySem.W.mg_of X G gc0⟩, ⟨_, PySem.W.mg_of X G gc1⟩, ⟨_, PySem.W.mg_of X G gc2⟩, ⟨_, PySem.W.mg_of X G gc3⟩, ⟨_, PySem.W.mg_of X G gc4⟩, ⟨_, PySem.W.mg_of X G gc5⟩, ⟨_, PySem.W.mg_of X G gc6⟩, ⟨_, PySem.W.mg_of X G gc7⟩, fat X G (ba2 fun _ _ _ _ _ _ _ _ => rfl) h0, fat X G (ba1 fun _ _ _ _ _ _ _ => rfl) h1, fat X G (ba1 fun _ _ _ _ _ _ _ => rfl) h2, fat X G (ba2 fun _ _ _ _ _ _ _ _ => rfl) h3, fat X G (ba1 fun _ _ _ _ _ _ _ => rfl) h4, fat X G (ba1 fun _ _ _ _ _ _ _ => rfl) h5, fat X G (ba1 fun _ _ _ _ _ _ _ => rfl) h6, fat X G (ba2 fun _ _ _ _ _ _ _ _ => rfl) h7, fat X G (ba1 fun _ _ _ _ _ _ _ => rfl) h8, fat X G (ba1 fun _ _ _ _ _ _ _ => rfl) h9, fat X G (ba1 fun _ _ _ _ _ _ _ => rfl) h10, fat X G (ba1 fun _ _ _ _ _ _ _ => rfl) h11, fat X G (ba1 fun _ _ _ _ _ _ _ => rfl) h12, fat X G (ba1 fun _ _ _ _ _ _ _ => rfl) h13, fat X G (ba2 fun _ _ _ _ _ _ _ _ => rfl) h14, fat X G (ba2 fun _ _ _ _ _ _ _ _ => rfl) h15, fat X G (ba1 fun _ _ _ _ _ _ _ => rfl) h16, fat X G (ba2 fun _ _ _ _ _ _ _ _ => rfl) h17, fat X G (ba1 fun _ _ _ _ _ _ _ => rfl) h18, fat X G (ba1 fun _ _ _ _ _ _ _ => rfl) h19, fat X G (ba2 fun _ _ _ _ _ _ _ _ => rfl) h20, fat X G (ba2 fun _ _ _ _ _ _ _ _ => rfl) h21, fat X G (ba2 fun _ _ _ _ _ _ _ _ => rfl) h22, fat X G (ba3 fun _ _ _ _ _ _ _ _ _ => rfl) h23, fat X G (ba1 fun _ _ _ _ _ _ _ => rfl) h24, fat X G (ba2 fun _ _ _ _ _ _ _ _ => rfl) h25, fat X G (ba1 fun _ _ _ _ _ _ _ => rfl) h26, fat X G (ba1 fun _ _ _ _ _ _ _ => rfl) h27, fat X G (ba2 fun _ _ _ _ _ _ _ _ => rfl) h28, fat X G (ba1 fun _ _ _ _ _ _ _ => rfl) h29, fat X G (ba1 fun _ _ _ _ _ _ _ => rfl) h30, fat X G (ba1 fun _ _ _ _ _ _ _ => rfl) h31, fat X G (ba2 fun _ _ _ _ _ _ _ _ => rfl) h32, fat X G (ba1 fun _ _ _ _ _ _ _ => rfl) h33, fat X G (ba1 fun _ _ _ _ _ _ _ => rfl) h34, fat X G (ba2 fun _ _ _ _ _ _ _ _ => rfl) h35, fat X G (ba2 fun _ _ _ _ _ _ _ _ => rfl) h36, fat X G (ba2 fun _ _ _ _ _ _ _ _ => rfl) h37, fat X G (ba2 fun _ _ _ _ _ _ _ _ => rfl) h38, fat X G (ba2 fun _ _ _ _ _ _ _ _ => rfl) h39, fat X G (ba1 fun _ _ _ _ _ _ _ => rfl) h40, fat X G (ba3 fun _ _ _ _ _ _ _ _ _ => rfl) h41, mat0 (ba3 fun _ _ _ _ _ _ _ _ _ => rfl) j0 fun i k => ⟨D7.mq, u0x7, i, D7.kc⟩, mat0 (ba1 fun _ _ _ _ _ _ _ => rfl) j1 fun i k => ⟨u1x7, i, k⟩, mat0 (ba2 fun _ _ _ _ _ _ _ _ => rfl) j2 fun i k => ⟨u2x7, i, k⟩, mat0 (ba1 fun _ _ _ _ _ _ _ => rfl) j3 fun i k => ⟨u3x7, i, k⟩, mat0 (ba1 fun _ _ _ _ _ _ _ => rfl) j4 fun i k => ⟨⟨u4x5, i, k⟩, ⟨u4x6, i, k⟩⟩, mat0 (ba1 fun _ _ _ _ _ _ _ => rfl) j5 fun i k => ⟨⟨u5x0, i, k⟩, ⟨u5x1, i, k⟩, ⟨u5x5, i, k⟩, ⟨u5x6, i, k⟩⟩, mat0 (ba1 fun _ _ _ _ _ _ _ => rfl) j6 fun i k => ⟨u6x6, i, k⟩, mat0 (ba3 fun _ _ _ _ _ _ _ _ _ => rfl) j7 fun i k => ⟨D0.mq, u7x0, i, D0.kc⟩, mat0 (ba1 fun _ _ _ _ _ _ _ => rfl) j8 fun i k => ⟨u8x0, i, k⟩, mat0 (ba1 fun _ _ _ _ _ _ _ => rfl) j9 fun i k => ⟨u9x0, i, k⟩, mat0 (ba3 fun _ _ _ _ _ _ _ _ _ => rfl) j10 fun i k => ⟨D1.mq, u10x1, i, D1.kc⟩, mat0 (ba1 fun _ _ _ _ _ _ _ => rfl) j11 fun i k => ⟨u11x1, i, k⟩, mat0 (ba1 fun _ _ _ _ _ _ _ => rfl) j12 fun i k => ⟨u12x1, i, k⟩, mat0 (ba3 fun _ _ _ _ _ _ _ _ _ => rfl) j13 fun i k => ⟨D2.mq, u13x2, i, D2.kc⟩, mat0 (ba1 fun _ _ _ _ _ _ _ => rfl) j14 fun i k => ⟨u14x2, i, k⟩, mat0 (ba1 fun _ _ _ _ _ _ _ => rfl) j15 fun i k => ⟨u15x2, i, k⟩, mat0 (ba1 fun _ _ _ _ _ _ _ => rfl) j16 fun i k => ⟨u16x2, i, k⟩, mat0 (ba3 fun _ _ _ _ _ _ _ _ _ => rfl) j17 fun i k => ⟨D3.mq, u17x3, i, D3.kc⟩, mat0 (ba1 fun _ _ _ _ _ _ _ => rfl) j18 fun i k => ⟨u18x3, i, k⟩, mat0 (ba1 fun _ _ _ _ _ _ _ => rfl) j19 fun i k => ⟨u19x3, i, k⟩, mat0 (ba1 fun _ _ _ _ _ _ _ => rfl) j20 fun i k => ⟨u20x3, i, k⟩, mat0 (ba4 fun _ _ _ _ _ _ _ _ _ _ => rfl) j21 fun i k => ⟨D4.mq, u21x4, i, D4.kc⟩, mat0 (ba1 fun _ _ _ _ _ _ _ => rfl) j22 fun i k => ⟨u22x4, i, k⟩, mat0 (ba1 fun _ _ _ _ _ _ _ => rfl) j23 fun i k => ⟨u23x4, i, k⟩, mat0 (ba1 fun _ _ _ _ _ _ _ => rfl) j24 fun i k => ⟨u24x4, i, k⟩, mat0 (ba2 fun _ _ _ _ _ _ _ _ => rfl) j25 fun i k => ⟨D5.mq, u25x5, i, D5.kc⟩, mat0 (ba1 fun _ _ _ _ _ _ _ => rfl) j26 fun i k => ⟨u26x5, i, k⟩, PySem.W.mg_of X G D0.A, PySem.W.mg_of X G D1.A, PySem.W.mg_of X G D2.A, PySem.W.mg_of X G D3.A, PySem.W.mg_of X G D4.A, PySem.W.mg_of X G D5.A, PySem.W.mg_of X G D6.A, PySem.W.mg_of X G D7.A, ⟨D6.mq, oi, D6.kc⟩, FM, ⟨R7, nf7x0, nf7x1, kit_own D7.mm D7.mm D7.mo D7.ty⟩⟩
  obtain ⟨f, fd, a, F⟩ := h42
  cases hfa.symm.trans (PySem.W.mg_of X G a)
  obtain ⟨oc, od, kV, doc, pm, an, cdv, ct, osl, rfl, lk, hcd⟩ := id F.ex
  exact ⟨_, fun s v => .of_eq rfl, fun base _ _ => ok_law TT F⟩

theorem walk {l : PySem.W.OpenLaw} {q : Program} {loose : List Str} {XP : (Str → Option Value) → Heap → Prop} {YP : World → Heap → Prop} {d : DefRec} {K : Params → PySem.W.Frag} (hn : l.most = some 63) (hdf : d.params.defaults = [])
    (hY : ∀ (w : World) (h : Heap), YP w h → (K w.params).In h)
    (F : ∀ (w : World) (mg : Str → Option Value) (fa : Addr) (h : Heap), (K w.params).In h → h.Ns mainGlobals mg → mg d.name = some (.ref fa) →
      ∃ fd : FuncData, (∀ (s : Shared) (u : Value), BindsTo s fd ⟨[u], []⟩ [("_law_script", u)]) ∧ ∀ base : Heap, (K w.params).In base → base.Ns mainGlobals mg → FnOk l.prog w (K w.params) mg base CX0 10 fa fd ["_law_script"] (spLaw (K w.params))) :
    PySem.W.WalkO q loose XP YP l.row.toRowW d [] (fun f vs => PySem.call f vs) :=
  L2.walk_of (n := 63) (k := 10) (x := "_law_script") (CX := fun _ => CX0) (sp := fun w => spLaw (K w.params)) hn (by decide) hdf ⟨rfl, by decide, by decide⟩ hY F (fun _ _ a ns hl _ hS => ⟨a, ns, rfl, hS, hl, fun _ => rfl⟩) fun _ _ _ _ _ z => z
open PySem in
open PySem in
noncomputable abbrev kf (s : Stmt) (n q m : Str) (t c : Nat) : Obj := { cls := .type "function", data := .func { name := n, qualname := q, params := L2.defArgs s, body := .stmts (L2.defBody s), scope := L2.defScope s, globals := 3, closure := [], defaults := .none, kwdefaults := .none, pyModule := .str m t, code := .ref c } }
open PySem in
noncomputable abbrev kc (n q : Str) (a b c : Nat) (l k : Int) (f r : Nat) (t : Bool) (g : Int) (u : Nat) (x y z : Value) (v : Nat) (m : Int) (e : Nat) : Obj := { cls := .type "code", data := .fields #[.str n a, .str q b, .str "/claim/cut.py" c, .int l 0, .int k 0, .int 0 0, .int 0 0, .int f 0, .ref r, .bool t, .int g 0, .ref u, x, y, z, .ref v, .int m 0, .int l 0, .str "/claim/cut.py" e] }
noncomputable abbrev k27 : PySem.Obj := kc "__init__" "Part.__init__" 201 202 203 4 3 3 22 true 181 23 .none (.ref 24) (.ref 25) 26 207 208
noncomputable abbrev k28 : PySem.Obj := kf ((Mine.clsBody (Mine.top 1)).getD 0 (.Pass ⟨0, 0, 0, 0⟩)) "__init__" "Part.__init__" "drawhouse.parts" 187 27
noncomputable abbrev k32 : PySem.Obj := kc "bound" "Part.bound" 210 211 212 8 1 3 29 true 181 30 .none .none .none 31 213 214
noncomputable abbrev k33 : PySem.Obj := kf ((Mine.clsBody (Mine.top 1)).getD 1 (.Pass ⟨0, 0, 0, 0⟩)) "bound" "Part.bound" "drawhouse.parts" 187 32
noncomputable abbrev k39 : PySem.Obj := kc "place_of" "Part.place_of" 216 217 218 12 2 3 34 true 181 35 .none (.ref 36) (.ref 37) 38 223 224
noncomputable abbrev k40 : PySem.Obj := kf ((Mine.clsBody (Mine.top 1)).getD 2 (.Pass ⟨0, 0, 0, 0⟩)) "place_of" "Part.place_of" "drawhouse.parts" 187 39
noncomputable abbrev k44 : PySem.Obj := kc "text" "Part.text" 226 227 228 20 1 3 41 true 181 42 .none .none .none 43 229 230
noncomputable abbrev k45 : PySem.Obj := kf ((Mine.clsBody (Mine.top 1)).getD 3 (.Pass ⟨0, 0, 0, 0⟩)) "text" "Part.text" "drawhouse.parts" 187 44
noncomputable abbrev k47 (P : PySem.Params) : PySem.Obj := { cls := .type "dict", data := .dict #[⟨PyData.keyHash P "__module__", .str "__module__" 196, .str "drawhouse.parts" 187⟩, ⟨PyData.keyHash P "__firstlineno__", .str "__firstlineno__" 200, .int 2 199⟩, ⟨PyData.keyHash P "__init__", .str "__init__" 209, .ref 28⟩, ⟨PyData.keyHash P "bound", .str "bound" 215, .ref 33⟩, ⟨PyData.keyHash P "place_of", .str "place_of" 225, .ref 40⟩, ⟨PyData.keyHash P "text", .str "text" 231, .ref 45⟩, ⟨PyData.keyHash P "__static_attributes__", .str "__static_attributes__" 234, .ref 46⟩, ⟨PyData.keyHash P "__dict__", .str "__dict__" 236, .ref 49⟩, ⟨PyData.keyHash P "__weakref__", .str "__weakref__" 238, .ref 50⟩, ⟨PyData.keyHash P "__doc__", .str "__doc__" 239, .none⟩] 4 }
noncomputable abbrev k48 : PySem.Obj := { cls := .type "type", data := .cls { name := "Part", bases := [.type "object"], mro := [.ref 48, .type "object"], ns := 47, qualname := "Part" }, slots := #[none, none, some (.str "Part" 189), some (.str "Part" 197), some (.builtin "object.__new__"), some (.bool true)] }
noncomputable abbrev k49 : PySem.Obj := { cls := .type "getset_descriptor", data := .fields #[.str "__dict__" 235, .ref 48, .builtin "function.__dict__", .builtin "function.__dict__#set"] }
noncomputable abbrev k50 : PySem.Obj := { cls := .type "getset_descriptor", data := .fields #[.str "__weakref__" 237, .ref 48, .builtin "ExceptionGroup.__weakref__", .none] }
noncomputable abbrev k61 (P : PySem.Params) : PySem.Obj := { cls := .type "dict", data := .dict #[⟨PyData.keyHash P "__module__", .str "__module__" 251, .str "drawhouse.errors" 242⟩, ⟨PyData.keyHash P "__firstlineno__", .str "__firstlineno__" 255, .int 23 254⟩, ⟨PyData.keyHash P "__static_attributes__", .str "__static_attributes__" 256, .ref 60⟩, ⟨PyData.keyHash P "__weakref__", .str "__weakref__" 258, .ref 63⟩, ⟨PyData.keyHash P "__doc__", .str "__doc__" 259, .none⟩] 3 }
noncomputable abbrev k62 : PySem.Obj := { cls := .type "type", data := .cls { name := "HouseError", bases := [.type "ValueError"], mro := [.ref 62, .type "ValueError", .type "Exception", .type "BaseException", .type "object"], ns := 61, qualname := "HouseError", subclasses := [.ref 75, .ref 94, .ref 113, .ref 132] }, slots := #[some (.ref 53), none, some (.str "HouseError" 244), some (.str "HouseError" 252), some (.builtin "ValueError.__new__"), some (.bool true)] }
noncomputable abbrev k63 : PySem.Obj := { cls := .type "getset_descriptor", data := .fields #[.str "__weakref__" 257, .ref 62, .builtin "ExceptionGroup.__weakref__", .none] }
noncomputable abbrev k74 (P : PySem.Params) : PySem.Obj := { cls := .type "dict", data := .dict #[⟨PyData.keyHash P "__module__", .str "__module__" 269, .str "drawhouse.errors" 242⟩, ⟨PyData.keyHash P "__firstlineno__", .str "__firstlineno__" 273, .int 25 272⟩, ⟨PyData.keyHash P "__static_attributes__", .str "__static_attributes__" 274, .ref 73⟩, ⟨PyData.keyHash P "__doc__", .str "__doc__" 275, .none⟩] 2 }
noncomputable abbrev k75 : PySem.Obj := { cls := .type "type", data := .cls { name := "NoExpr", bases := [.ref 62], mro := [.ref 75, .ref 62, .type "ValueError", .type "Exception", .type "BaseException", .type "object"], ns := 74, qualname := "NoExpr" }, slots := #[some (.ref 66), none, some (.str "NoExpr" 262), some (.str "NoExpr" 270), some (.builtin "ValueError.__new__"), some (.bool true)] }
noncomputable abbrev k90 : PySem.Obj := kc "__init__" "NoText.__init__" 290 291 292 29 2 3 85 true 181 86 .none (.ref 87) (.ref 88) 89 295 296
noncomputable abbrev k91 : PySem.Obj := kf ((Mine.clsBody (Mine.top 5)).getD 0 (.Pass ⟨0, 0, 0, 0⟩)) "__init__" "NoText.__init__" "drawhouse.errors" 242 90
noncomputable abbrev k93 (P : PySem.Params) : PySem.Obj := { cls := .type "dict", data := .dict #[⟨PyData.keyHash P "__module__", .str "__module__" 285, .str "drawhouse.errors" 242⟩, ⟨PyData.keyHash P "__firstlineno__", .str "__firstlineno__" 289, .int 27 288⟩, ⟨PyData.keyHash P "__init__", .str "__init__" 297, .ref 91⟩, ⟨PyData.keyHash P "__static_attributes__", .str "__static_attributes__" 299, .ref 92⟩, ⟨PyData.keyHash P "__doc__", .str "__doc__" 300, .none⟩] 2 }
noncomputable abbrev k94 : PySem.Obj := { cls := .type "type", data := .cls { name := "NoText", bases := [.ref 62], mro := [.ref 94, .ref 62, .type "ValueError", .type "Exception", .type "BaseException", .type "object"], ns := 93, qualname := "NoText" }, slots := #[some (.ref 78), none, some (.str "NoText" 278), some (.str "NoText" 286), some (.builtin "ValueError.__new__"), some (.bool true)] }
noncomputable abbrev k109 : PySem.Obj := kc "__init__" "TooMany.__init__" 315 316 317 34 2 3 104 true 181 105 .none (.ref 106) (.ref 107) 108 320 321
noncomputable abbrev k110 : PySem.Obj := kf ((Mine.clsBody (Mine.top 6)).getD 0 (.Pass ⟨0, 0, 0, 0⟩)) "__init__" "TooMany.__init__" "drawhouse.errors" 242 109
noncomputable abbrev k112 (P : PySem.Params) : PySem.Obj := { cls := .type "dict", data := .dict #[⟨PyData.keyHash P "__module__", .str "__module__" 310, .str "drawhouse.errors" 242⟩, ⟨PyData.keyHash P "__firstlineno__", .str "__firstlineno__" 314, .int 32 313⟩, ⟨PyData.keyHash P "__init__", .str "__init__" 322, .ref 110⟩, ⟨PyData.keyHash P "__static_attributes__", .str "__static_attributes__" 324, .ref 111⟩, ⟨PyData.keyHash P "__doc__", .str "__doc__" 325, .none⟩] 2 }
noncomputable abbrev k113 : PySem.Obj := { cls := .type "type", data := .cls { name := "TooMany", bases := [.ref 62], mro := [.ref 113, .ref 62, .type "ValueError", .type "Exception", .type "BaseException", .type "object"], ns := 112, qualname := "TooMany" }, slots := #[some (.ref 97), none, some (.str "TooMany" 303), some (.str "TooMany" 311), some (.builtin "ValueError.__new__"), some (.bool true)] }
noncomputable abbrev k128 : PySem.Obj := kc "__init__" "Twice.__init__" 340 341 342 39 2 3 123 true 181 124 .none (.ref 125) (.ref 126) 127 345 346
noncomputable abbrev k129 : PySem.Obj := kf ((Mine.clsBody (Mine.top 7)).getD 0 (.Pass ⟨0, 0, 0, 0⟩)) "__init__" "Twice.__init__" "drawhouse.errors" 242 128
noncomputable abbrev k131 (P : PySem.Params) : PySem.Obj := { cls := .type "dict", data := .dict #[⟨PyData.keyHash P "__module__", .str "__module__" 335, .str "drawhouse.errors" 242⟩, ⟨PyData.keyHash P "__firstlineno__", .str "__firstlineno__" 339, .int 37 338⟩, ⟨PyData.keyHash P "__init__", .str "__init__" 347, .ref 129⟩, ⟨PyData.keyHash P "__static_attributes__", .str "__static_attributes__" 349, .ref 130⟩, ⟨PyData.keyHash P "__doc__", .str "__doc__" 350, .none⟩] 2 }
noncomputable abbrev k132 : PySem.Obj := { cls := .type "type", data := .cls { name := "Twice", bases := [.ref 62], mro := [.ref 132, .ref 62, .type "ValueError", .type "Exception", .type "BaseException", .type "object"], ns := 131, qualname := "Twice" }, slots := #[some (.ref 116), none, some (.str "Twice" 328), some (.str "Twice" 336), some (.builtin "ValueError.__new__"), some (.bool true)] }
noncomputable abbrev k138 : PySem.Obj := kc "is_name" "is_name" 361 362 363 46 1 3 135 true 181 136 .none .none .none 137 364 365
noncomputable abbrev k139 : PySem.Obj := kf (Mine.top 12) "is_name" "is_name" "drawhouse.words" 353 138
noncomputable abbrev k143 : PySem.Obj := kc "are_names" "are_names" 367 368 369 52 2 3 140 true 181 141 .none .none .none 142 370 371
noncomputable abbrev k144 : PySem.Obj := kf (Mine.top 13) "are_names" "are_names" "drawhouse.words" 353 143
noncomputable abbrev k150 : PySem.Obj := kc "is_address" "is_address" 373 374 375 55 1 3 145 true 181 146 .none (.ref 147) (.ref 148) 149 377 378
noncomputable abbrev k151 : PySem.Obj := kf (Mine.top 14) "is_address" "is_address" "drawhouse.words" 353 150
noncomputable abbrev k155 : PySem.Obj := kc "is_number" "is_number" 390 391 392 62 1 3 152 true 181 153 .none .none .none 154 393 394
noncomputable abbrev k156 : PySem.Obj := kf (Mine.top 20) "is_number" "is_number" "drawhouse.exprs" 380 155
noncomputable abbrev k162 : PySem.Obj := kc "read_path" "read_path" 396 397 398 68 1 3 157 true 181 158 .none (.ref 159) (.ref 160) 161 400 401
noncomputable abbrev k163 : PySem.Obj := kf (Mine.top 21) "read_path" "read_path" "drawhouse.exprs" 380 162
noncomputable abbrev k169 : PySem.Obj := kc "read_term" "read_term" 403 404 405 72 2 3 164 true 181 165 .none (.ref 166) (.ref 167) 168 408 409
noncomputable abbrev k170 : PySem.Obj := kf (Mine.top 22) "read_term" "read_term" "drawhouse.exprs" 380 169
noncomputable abbrev k176 : PySem.Obj := kc "read_sign" "read_sign" 411 412 413 78 1 3 171 true 181 172 .none (.ref 173) (.ref 174) 175 415 416
noncomputable abbrev k177 : PySem.Obj := kf (Mine.top 23) "read_sign" "read_sign" "drawhouse.exprs" 380 176
noncomputable abbrev k183 : PySem.Obj := kc "read_expr" "read_expr" 418 419 420 84 1 3 178 true 181 179 .none (.ref 180) (.ref 181) 182 425 426
noncomputable abbrev k184 : PySem.Obj := kf (Mine.top 24) "read_expr" "read_expr" "drawhouse.exprs" 380 183
noncomputable abbrev k190 : PySem.Obj := kc "show_term" "show_term" 428 429 430 96 2 3 185 true 181 186 .none (.ref 187) (.ref 188) 189 434 435
noncomputable abbrev k191 : PySem.Obj := kf (Mine.top 25) "show_term" "show_term" "drawhouse.exprs" 380 190
noncomputable abbrev k197 : PySem.Obj := kc "show_expr" "show_expr" 437 438 439 103 1 3 192 true 181 193 .none (.ref 194) (.ref 195) 196 445 446
noncomputable abbrev k198 : PySem.Obj := kf (Mine.top 26) "show_expr" "show_expr" "drawhouse.exprs" 380 197
noncomputable abbrev k202 : PySem.Obj := kc "has_call" "has_call" 448 449 450 110 1 3 199 true 181 200 .none .none .none 201 451 452
noncomputable abbrev k203 : PySem.Obj := kf (Mine.top 27) "has_call" "has_call" "drawhouse.exprs" 380 202
noncomputable abbrev k216 : PySem.Obj := kc "binds" "Row.binds" 468 469 470 115 1 3 211 true 181 212 .none (.ref 213) (.ref 214) 215 472 473
noncomputable abbrev k217 : PySem.Obj := kf ((Mine.clsBody (Mine.top 29)).getD 0 (.Pass ⟨0, 0, 0, 0⟩)) "binds" "Row.binds" "drawhouse.rows" 454 216
noncomputable abbrev k223 : PySem.Obj := kc "asked" "Row.asked" 475 476 477 118 1 3 218 true 181 219 .none (.ref 220) (.ref 221) 222 479 480
noncomputable abbrev k224 : PySem.Obj := kf ((Mine.clsBody (Mine.top 29)).getD 1 (.Pass ⟨0, 0, 0, 0⟩)) "asked" "Row.asked" "drawhouse.rows" 454 223
noncomputable abbrev k230 : PySem.Obj := kc "said" "Row.said" 482 483 484 121 1 3 225 true 181 226 .none (.ref 227) (.ref 228) 229 486 487
noncomputable abbrev k231 : PySem.Obj := kf ((Mine.clsBody (Mine.top 29)).getD 2 (.Pass ⟨0, 0, 0, 0⟩)) "said" "Row.said" "drawhouse.rows" 454 230
noncomputable abbrev k233 (P : PySem.Params) : PySem.Obj := { cls := .type "dict", data := .dict #[⟨PyData.keyHash P "__module__", .str "__module__" 463, .str "drawhouse.rows" 454⟩, ⟨PyData.keyHash P "__firstlineno__", .str "__firstlineno__" 467, .int 113 466⟩, ⟨PyData.keyHash P "binds", .str "binds" 474, .ref 217⟩, ⟨PyData.keyHash P "asked", .str "asked" 481, .ref 224⟩, ⟨PyData.keyHash P "said", .str "said" 488, .ref 231⟩, ⟨PyData.keyHash P "__static_attributes__", .str "__static_attributes__" 489, .ref 232⟩, ⟨PyData.keyHash P "__dict__", .str "__dict__" 491, .ref 235⟩, ⟨PyData.keyHash P "__weakref__", .str "__weakref__" 493, .ref 236⟩, ⟨PyData.keyHash P "__doc__", .str "__doc__" 494, .none⟩] 4 }
noncomputable abbrev k234 : PySem.Obj := { cls := .type "type", data := .cls { name := "Row", bases := [.type "object"], mro := [.ref 234, .type "object"], ns := 233, qualname := "Row", subclasses := [.ref 269, .ref 302, .ref 342, .ref 382, .ref 422, .ref 448] }, slots := #[none, none, some (.str "Row" 456), some (.str "Row" 464), some (.builtin "object.__new__"), some (.bool true)] }
noncomputable abbrev k235 : PySem.Obj := { cls := .type "getset_descriptor", data := .fields #[.str "__dict__" 490, .ref 234, .builtin "function.__dict__", .builtin "function.__dict__#set"] }
noncomputable abbrev k236 : PySem.Obj := { cls := .type "getset_descriptor", data := .fields #[.str "__weakref__" 492, .ref 234, .builtin "ExceptionGroup.__weakref__", .none] }
noncomputable abbrev k251 : PySem.Obj := kc "__init__" "Let.__init__" 509 510 511 125 3 3 246 true 181 247 .none (.ref 248) (.ref 249) 250 515 516
noncomputable abbrev k252 : PySem.Obj := kf ((Mine.clsBody (Mine.top 30)).getD 0 (.Pass ⟨0, 0, 0, 0⟩)) "__init__" "Let.__init__" "drawhouse.rows" 454 251
noncomputable abbrev k258 : PySem.Obj := kc "binds" "Let.binds" 518 519 520 129 1 3 253 true 181 254 .none (.ref 255) (.ref 256) 257 522 523
noncomputable abbrev k259 : PySem.Obj := kf ((Mine.clsBody (Mine.top 30)).getD 1 (.Pass ⟨0, 0, 0, 0⟩)) "binds" "Let.binds" "drawhouse.rows" 454 258
noncomputable abbrev k265 : PySem.Obj := kc "said" "Let.said" 525 526 527 132 1 3 260 true 181 261 .none (.ref 262) (.ref 263) 264 529 530
noncomputable abbrev k266 : PySem.Obj := kf ((Mine.clsBody (Mine.top 30)).getD 2 (.Pass ⟨0, 0, 0, 0⟩)) "said" "Let.said" "drawhouse.rows" 454 265
noncomputable abbrev k268 (P : PySem.Params) : PySem.Obj := { cls := .type "dict", data := .dict #[⟨PyData.keyHash P "__module__", .str "__module__" 504, .str "drawhouse.rows" 454⟩, ⟨PyData.keyHash P "__firstlineno__", .str "__firstlineno__" 508, .int 123 507⟩, ⟨PyData.keyHash P "__init__", .str "__init__" 517, .ref 252⟩, ⟨PyData.keyHash P "binds", .str "binds" 524, .ref 259⟩, ⟨PyData.keyHash P "said", .str "said" 531, .ref 266⟩, ⟨PyData.keyHash P "__static_attributes__", .str "__static_attributes__" 534, .ref 267⟩, ⟨PyData.keyHash P "__doc__", .str "__doc__" 535, .none⟩] 2 }
noncomputable abbrev k269 : PySem.Obj := { cls := .type "type", data := .cls { name := "Let", bases := [.ref 234], mro := [.ref 269, .ref 234, .type "object"], ns := 268, qualname := "Let" }, slots := #[some (.ref 239), none, some (.str "Let" 497), some (.str "Let" 505), some (.builtin "object.__new__"), some (.bool true)] }
noncomputable abbrev k284 : PySem.Obj := kc "__init__" "Deed.__init__" 550 551 552 136 3 3 279 true 181 280 .none (.ref 281) (.ref 282) 283 556 557
noncomputable abbrev k285 : PySem.Obj := kf ((Mine.clsBody (Mine.top 31)).getD 0 (.Pass ⟨0, 0, 0, 0⟩)) "__init__" "Deed.__init__" "drawhouse.rows" 454 284
noncomputable abbrev k291 : PySem.Obj := kc "binds" "Deed.binds" 559 560 561 140 1 3 286 true 181 287 .none (.ref 288) (.ref 289) 290 563 564
noncomputable abbrev k292 : PySem.Obj := kf ((Mine.clsBody (Mine.top 31)).getD 1 (.Pass ⟨0, 0, 0, 0⟩)) "binds" "Deed.binds" "drawhouse.rows" 454 291
noncomputable abbrev k298 : PySem.Obj := kc "said" "Deed.said" 566 567 568 143 1 3 293 true 181 294 .none (.ref 295) (.ref 296) 297 570 571
noncomputable abbrev k299 : PySem.Obj := kf ((Mine.clsBody (Mine.top 31)).getD 2 (.Pass ⟨0, 0, 0, 0⟩)) "said" "Deed.said" "drawhouse.rows" 454 298
noncomputable abbrev k301 (P : PySem.Params) : PySem.Obj := { cls := .type "dict", data := .dict #[⟨PyData.keyHash P "__module__", .str "__module__" 545, .str "drawhouse.rows" 454⟩, ⟨PyData.keyHash P "__firstlineno__", .str "__firstlineno__" 549, .int 134 548⟩, ⟨PyData.keyHash P "__init__", .str "__init__" 558, .ref 285⟩, ⟨PyData.keyHash P "binds", .str "binds" 565, .ref 292⟩, ⟨PyData.keyHash P "said", .str "said" 572, .ref 299⟩, ⟨PyData.keyHash P "__static_attributes__", .str "__static_attributes__" 575, .ref 300⟩, ⟨PyData.keyHash P "__doc__", .str "__doc__" 576, .none⟩] 2 }
noncomputable abbrev k302 : PySem.Obj := { cls := .type "type", data := .cls { name := "Deed", bases := [.ref 234], mro := [.ref 302, .ref 234, .type "object"], ns := 301, qualname := "Deed" }, slots := #[some (.ref 272), none, some (.str "Deed" 538), some (.str "Deed" 546), some (.builtin "object.__new__"), some (.bool true)] }
noncomputable abbrev k317 : PySem.Obj := kc "__init__" "Draw.__init__" 591 592 593 147 3 3 312 true 181 313 .none (.ref 314) (.ref 315) 316 597 598
noncomputable abbrev k318 : PySem.Obj := kf ((Mine.clsBody (Mine.top 32)).getD 0 (.Pass ⟨0, 0, 0, 0⟩)) "__init__" "Draw.__init__" "drawhouse.rows" 454 317
noncomputable abbrev k324 : PySem.Obj := kc "binds" "Draw.binds" 600 601 602 151 1 3 319 true 181 320 .none (.ref 321) (.ref 322) 323 604 605
noncomputable abbrev k325 : PySem.Obj := kf ((Mine.clsBody (Mine.top 32)).getD 1 (.Pass ⟨0, 0, 0, 0⟩)) "binds" "Draw.binds" "drawhouse.rows" 454 324
noncomputable abbrev k331 : PySem.Obj := kc "asked" "Draw.asked" 607 608 609 154 1 3 326 true 181 327 .none (.ref 328) (.ref 329) 330 611 612
noncomputable abbrev k332 : PySem.Obj := kf ((Mine.clsBody (Mine.top 32)).getD 2 (.Pass ⟨0, 0, 0, 0⟩)) "asked" "Draw.asked" "drawhouse.rows" 454 331
noncomputable abbrev k338 : PySem.Obj := kc "said" "Draw.said" 614 615 616 157 1 3 333 true 181 334 .none (.ref 335) (.ref 336) 337 618 619
noncomputable abbrev k339 : PySem.Obj := kf ((Mine.clsBody (Mine.top 32)).getD 3 (.Pass ⟨0, 0, 0, 0⟩)) "said" "Draw.said" "drawhouse.rows" 454 338
noncomputable abbrev k341 (P : PySem.Params) : PySem.Obj := { cls := .type "dict", data := .dict #[⟨PyData.keyHash P "__module__", .str "__module__" 586, .str "drawhouse.rows" 454⟩, ⟨PyData.keyHash P "__firstlineno__", .str "__firstlineno__" 590, .int 145 589⟩, ⟨PyData.keyHash P "__init__", .str "__init__" 599, .ref 318⟩, ⟨PyData.keyHash P "binds", .str "binds" 606, .ref 325⟩, ⟨PyData.keyHash P "asked", .str "asked" 613, .ref 332⟩, ⟨PyData.keyHash P "said", .str "said" 620, .ref 339⟩, ⟨PyData.keyHash P "__static_attributes__", .str "__static_attributes__" 623, .ref 340⟩, ⟨PyData.keyHash P "__doc__", .str "__doc__" 624, .none⟩] 2 }
noncomputable abbrev k342 : PySem.Obj := { cls := .type "type", data := .cls { name := "Draw", bases := [.ref 234], mro := [.ref 342, .ref 234, .type "object"], ns := 341, qualname := "Draw" }, slots := #[some (.ref 305), none, some (.str "Draw" 579), some (.str "Draw" 587), some (.builtin "object.__new__"), some (.bool true)] }
noncomputable abbrev k357 : PySem.Obj := kc "__init__" "Late.__init__" 639 640 641 161 3 3 352 true 181 353 .none (.ref 354) (.ref 355) 356 645 646
noncomputable abbrev k358 : PySem.Obj := kf ((Mine.clsBody (Mine.top 33)).getD 0 (.Pass ⟨0, 0, 0, 0⟩)) "__init__" "Late.__init__" "drawhouse.rows" 454 357
noncomputable abbrev k364 : PySem.Obj := kc "binds" "Late.binds" 648 649 650 165 1 3 359 true 181 360 .none (.ref 361) (.ref 362) 363 652 653
noncomputable abbrev k365 : PySem.Obj := kf ((Mine.clsBody (Mine.top 33)).getD 1 (.Pass ⟨0, 0, 0, 0⟩)) "binds" "Late.binds" "drawhouse.rows" 454 364
noncomputable abbrev k371 : PySem.Obj := kc "asked" "Late.asked" 655 656 657 168 1 3 366 true 181 367 .none (.ref 368) (.ref 369) 370 659 660
noncomputable abbrev k372 : PySem.Obj := kf ((Mine.clsBody (Mine.top 33)).getD 2 (.Pass ⟨0, 0, 0, 0⟩)) "asked" "Late.asked" "drawhouse.rows" 454 371
noncomputable abbrev k378 : PySem.Obj := kc "said" "Late.said" 662 663 664 171 1 3 373 true 181 374 .none (.ref 375) (.ref 376) 377 666 667
noncomputable abbrev k379 : PySem.Obj := kf ((Mine.clsBody (Mine.top 33)).getD 3 (.Pass ⟨0, 0, 0, 0⟩)) "said" "Late.said" "drawhouse.rows" 454 378
noncomputable abbrev k381 (P : PySem.Params) : PySem.Obj := { cls := .type "dict", data := .dict #[⟨PyData.keyHash P "__module__", .str "__module__" 634, .str "drawhouse.rows" 454⟩, ⟨PyData.keyHash P "__firstlineno__", .str "__firstlineno__" 638, .int 159 637⟩, ⟨PyData.keyHash P "__init__", .str "__init__" 647, .ref 358⟩, ⟨PyData.keyHash P "binds", .str "binds" 654, .ref 365⟩, ⟨PyData.keyHash P "asked", .str "asked" 661, .ref 372⟩, ⟨PyData.keyHash P "said", .str "said" 668, .ref 379⟩, ⟨PyData.keyHash P "__static_attributes__", .str "__static_attributes__" 671, .ref 380⟩, ⟨PyData.keyHash P "__doc__", .str "__doc__" 672, .none⟩] 2 }
noncomputable abbrev k382 : PySem.Obj := { cls := .type "type", data := .cls { name := "Late", bases := [.ref 234], mro := [.ref 382, .ref 234, .type "object"], ns := 381, qualname := "Late" }, slots := #[some (.ref 345), none, some (.str "Late" 627), some (.str "Late" 635), some (.builtin "object.__new__"), some (.bool true)] }
noncomputable abbrev k397 : PySem.Obj := kc "__init__" "Take.__init__" 687 688 689 175 4 3 392 true 181 393 .none (.ref 394) (.ref 395) 396 694 695
noncomputable abbrev k398 : PySem.Obj := kf ((Mine.clsBody (Mine.top 34)).getD 0 (.Pass ⟨0, 0, 0, 0⟩)) "__init__" "Take.__init__" "drawhouse.rows" 454 397
noncomputable abbrev k404 : PySem.Obj := kc "binds" "Take.binds" 697 698 699 180 1 3 399 true 181 400 .none (.ref 401) (.ref 402) 403 701 702
noncomputable abbrev k405 : PySem.Obj := kf ((Mine.clsBody (Mine.top 34)).getD 1 (.Pass ⟨0, 0, 0, 0⟩)) "binds" "Take.binds" "drawhouse.rows" 454 404
noncomputable abbrev k411 : PySem.Obj := kc "asked" "Take.asked" 704 705 706 183 1 3 406 true 181 407 .none (.ref 408) (.ref 409) 410 708 709
noncomputable abbrev k412 : PySem.Obj := kf ((Mine.clsBody (Mine.top 34)).getD 2 (.Pass ⟨0, 0, 0, 0⟩)) "asked" "Take.asked" "drawhouse.rows" 454 411
noncomputable abbrev k418 : PySem.Obj := kc "said" "Take.said" 711 712 713 186 1 3 413 true 181 414 .none (.ref 415) (.ref 416) 417 715 716
noncomputable abbrev k419 : PySem.Obj := kf ((Mine.clsBody (Mine.top 34)).getD 3 (.Pass ⟨0, 0, 0, 0⟩)) "said" "Take.said" "drawhouse.rows" 454 418
noncomputable abbrev k421 (P : PySem.Params) : PySem.Obj := { cls := .type "dict", data := .dict #[⟨PyData.keyHash P "__module__", .str "__module__" 682, .str "drawhouse.rows" 454⟩, ⟨PyData.keyHash P "__firstlineno__", .str "__firstlineno__" 686, .int 173 685⟩, ⟨PyData.keyHash P "__init__", .str "__init__" 696, .ref 398⟩, ⟨PyData.keyHash P "binds", .str "binds" 703, .ref 405⟩, ⟨PyData.keyHash P "asked", .str "asked" 710, .ref 412⟩, ⟨PyData.keyHash P "said", .str "said" 717, .ref 419⟩, ⟨PyData.keyHash P "__static_attributes__", .str "__static_attributes__" 721, .ref 420⟩, ⟨PyData.keyHash P "__doc__", .str "__doc__" 722, .none⟩] 2 }
noncomputable abbrev k422 : PySem.Obj := { cls := .type "type", data := .cls { name := "Take", bases := [.ref 234], mro := [.ref 422, .ref 234, .type "object"], ns := 421, qualname := "Take" }, slots := #[some (.ref 385), none, some (.str "Take" 675), some (.str "Take" 683), some (.builtin "object.__new__"), some (.bool true)] }
noncomputable abbrev k437 : PySem.Obj := kc "__init__" "Need.__init__" 737 738 739 190 2 3 432 true 181 433 .none (.ref 434) (.ref 435) 436 742 743
noncomputable abbrev k438 : PySem.Obj := kf ((Mine.clsBody (Mine.top 35)).getD 0 (.Pass ⟨0, 0, 0, 0⟩)) "__init__" "Need.__init__" "drawhouse.rows" 454 437
noncomputable abbrev k444 : PySem.Obj := kc "said" "Need.said" 745 746 747 193 1 3 439 true 181 440 .none (.ref 441) (.ref 442) 443 749 750
noncomputable abbrev k445 : PySem.Obj := kf ((Mine.clsBody (Mine.top 35)).getD 1 (.Pass ⟨0, 0, 0, 0⟩)) "said" "Need.said" "drawhouse.rows" 454 444
noncomputable abbrev k447 (P : PySem.Params) : PySem.Obj := { cls := .type "dict", data := .dict #[⟨PyData.keyHash P "__module__", .str "__module__" 732, .str "drawhouse.rows" 454⟩, ⟨PyData.keyHash P "__firstlineno__", .str "__firstlineno__" 736, .int 188 735⟩, ⟨PyData.keyHash P "__init__", .str "__init__" 744, .ref 438⟩, ⟨PyData.keyHash P "said", .str "said" 751, .ref 445⟩, ⟨PyData.keyHash P "__static_attributes__", .str "__static_attributes__" 753, .ref 446⟩, ⟨PyData.keyHash P "__doc__", .str "__doc__" 754, .none⟩] 2 }
noncomputable abbrev k448 : PySem.Obj := { cls := .type "type", data := .cls { name := "Need", bases := [.ref 234], mro := [.ref 448, .ref 234, .type "object"], ns := 447, qualname := "Need" }, slots := #[some (.ref 425), none, some (.str "Need" 725), some (.str "Need" 733), some (.builtin "object.__new__"), some (.bool true)] }
noncomputable abbrev k456 : PySem.Obj := kc "names_expr" "names_expr" 761 762 763 197 1 3 451 true 181 452 .none (.ref 453) (.ref 454) 455 765 766
noncomputable abbrev k457 : PySem.Obj := kf (Mine.top 38) "names_expr" "names_expr" "drawhouse.reader" 757 456
noncomputable abbrev k463 : PySem.Obj := kc "names_address" "names_address" 768 769 770 199 1 3 458 true 181 459 .none (.ref 460) (.ref 461) 462 772 773
noncomputable abbrev k464 : PySem.Obj := kf (Mine.top 39) "names_address" "names_address" "drawhouse.reader" 757 463
noncomputable abbrev k470 : PySem.Obj := kc "names_word" "names_word" 775 776 777 201 1 3 465 true 181 466 .none (.ref 467) (.ref 468) 469 779 780
noncomputable abbrev k471 : PySem.Obj := kf (Mine.top 40) "names_word" "names_word" "drawhouse.reader" 757 470
noncomputable abbrev k477 : PySem.Obj := kc "terms_from" "terms_from" 782 783 784 205 2 3 472 true 181 473 .none (.ref 474) (.ref 475) 476 787 788
noncomputable abbrev k478 : PySem.Obj := kf (Mine.top 41) "terms_from" "terms_from" "drawhouse.reader" 757 477
noncomputable abbrev k484 : PySem.Obj := kc "deed_of" "deed_of" 790 791 792 207 2 3 479 true 181 480 .none (.ref 481) (.ref 482) 483 795 796
noncomputable abbrev k485 : PySem.Obj := kf (Mine.top 42) "deed_of" "deed_of" "drawhouse.reader" 757 484
noncomputable abbrev k491 : PySem.Obj := kc "row_of" "row_of" 798 799 800 211 1 3 486 true 181 487 .none (.ref 488) (.ref 489) 490 803 804
noncomputable abbrev k492 : PySem.Obj := kf (Mine.top 43) "row_of" "row_of" "drawhouse.reader" 757 491
noncomputable abbrev k498 : PySem.Obj := kc "row_at" "row_at" 806 807 808 226 2 3 493 true 181 494 .none (.ref 495) (.ref 496) 497 812 813
noncomputable abbrev k499 : PySem.Obj := kf (Mine.top 44) "row_at" "row_at" "drawhouse.reader" 757 498
noncomputable abbrev k505 : PySem.Obj := kc "read_head" "read_head" 815 816 817 234 1 3 500 true 181 501 .none (.ref 502) (.ref 503) 504 820 821
noncomputable abbrev k506 : PySem.Obj := kf (Mine.top 45) "read_head" "read_head" "drawhouse.reader" 757 505
noncomputable abbrev k512 : PySem.Obj := kc "read_part" "read_part" 823 824 825 239 1 3 507 true 181 508 .none (.ref 509) (.ref 510) 511 833 834
noncomputable abbrev k513 : PySem.Obj := kf (Mine.top 46) "read_part" "read_part" "drawhouse.reader" 757 512
noncomputable abbrev k519 : PySem.Obj := kc "_law_cell" "_law_cell" 838 839 840 254 2 3 514 true 181 515 .none (.ref 516) (.ref 517) 518 843 844
noncomputable abbrev k520 : PySem.Obj := kf (Mine.top 48) "_law_cell" "_law_cell" "law_drawhouse_k24_parts_told_and_read" 836 519
noncomputable abbrev k526 : PySem.Obj := kc "_law_sub" "_law_sub" 846 847 848 258 2 3 521 true 181 522 .none (.ref 523) (.ref 524) 525 851 852
noncomputable abbrev k527 : PySem.Obj := kf (Mine.top 49) "_law_sub" "_law_sub" "law_drawhouse_k24_parts_told_and_read" 836 526
noncomputable abbrev k533 : PySem.Obj := kc "_law_number" "_law_number" 854 855 856 262 2 3 528 true 181 529 .none (.ref 530) (.ref 531) 532 859 860
noncomputable abbrev k534 : PySem.Obj := kf (Mine.top 50) "_law_number" "_law_number" "law_drawhouse_k24_parts_told_and_read" 836 533
noncomputable abbrev k540 : PySem.Obj := kc "_law_pick" "_law_pick" 862 863 864 266 3 3 535 true 181 536 .none (.ref 537) (.ref 538) 539 871 872
noncomputable abbrev k541 : PySem.Obj := kf (Mine.top 51) "_law_pick" "_law_pick" "law_drawhouse_k24_parts_told_and_read" 836 540
noncomputable abbrev k545 : PySem.Obj := kc "_law_names" "_law_names" 874 875 876 275 2 3 542 true 181 543 .none .none .none 544 877 878
noncomputable abbrev k546 : PySem.Obj := kf (Mine.top 52) "_law_names" "_law_names" "law_drawhouse_k24_parts_told_and_read" 836 545
noncomputable abbrev k550 : PySem.Obj := kc "_law_name" "_law_name" 880 881 882 291 1 3 547 true 181 548 .none .none .none 549 883 884
noncomputable abbrev k551 : PySem.Obj := kf (Mine.top 53) "_law_name" "_law_name" "law_drawhouse_k24_parts_told_and_read" 836 550
noncomputable abbrev k557 : PySem.Obj := kc "_law_label" "_law_label" 886 887 888 294 1 3 552 true 181 553 .none (.ref 554) (.ref 555) 556 891 892
noncomputable abbrev k558 : PySem.Obj := kf (Mine.top 54) "_law_label" "_law_label" "law_drawhouse_k24_parts_told_and_read" 836 557
noncomputable abbrev k562 : PySem.Obj := kc "_law_address" "_law_address" 894 895 896 299 1 3 559 true 181 560 .none .none .none 561 897 898
noncomputable abbrev k563 : PySem.Obj := kf (Mine.top 55) "_law_address" "_law_address" "law_drawhouse_k24_parts_told_and_read" 836 562
noncomputable abbrev k567 : PySem.Obj := kc "_law_term" "_law_term" 900 901 902 301 2 3 564 true 181 565 .none .none .none 566 903 904
noncomputable abbrev k568 : PySem.Obj := kf (Mine.top 56) "_law_term" "_law_term" "law_drawhouse_k24_parts_told_and_read" 836 567
noncomputable abbrev k572 : PySem.Obj := kc "_law_terms" "_law_terms" 906 907 908 309 1 3 569 true 181 570 .none .none .none 571 909 910
noncomputable abbrev k573 : PySem.Obj := kf (Mine.top 57) "_law_terms" "_law_terms" "law_drawhouse_k24_parts_told_and_read" 836 572
noncomputable abbrev k579 : PySem.Obj := kc "_law_word" "_law_word" 912 913 914 311 1 3 574 true 181 575 .none (.ref 576) (.ref 577) 578 919 920
noncomputable abbrev k580 : PySem.Obj := kf (Mine.top 58) "_law_word" "_law_word" "law_drawhouse_k24_parts_told_and_read" 836 579
noncomputable abbrev k586 : PySem.Obj := kc "_law_text" "_law_text" 922 923 924 316 1 3 581 true 181 582 .none (.ref 583) (.ref 584) 585 928 929
noncomputable abbrev k587 : PySem.Obj := kf (Mine.top 59) "_law_text" "_law_text" "law_drawhouse_k24_parts_told_and_read" 836 586
noncomputable abbrev k591 : PySem.Obj := kc "_law_row" "_law_row" 931 932 933 321 2 3 588 true 181 589 .none .none .none 590 934 935
noncomputable abbrev k592 : PySem.Obj := kf (Mine.top 60) "_law_row" "_law_row" "law_drawhouse_k24_parts_told_and_read" 836 591
noncomputable abbrev k598 : PySem.Obj := kc "_law_said" "_law_said" 937 938 939 329 1 3 593 true 181 594 .none (.ref 595) (.ref 596) 597 946 947
noncomputable abbrev k599 : PySem.Obj := kf (Mine.top 61) "_law_said" "_law_said" "law_drawhouse_k24_parts_told_and_read" 836 598
noncomputable abbrev k605 : PySem.Obj := kc "_law_whole" "_law_whole" 949 950 951 338 1 3 600 true 181 601 .none (.ref 602) (.ref 603) 604 953 954
noncomputable abbrev k606 : PySem.Obj := kf (Mine.top 62) "_law_whole" "_law_whole" "law_drawhouse_k24_parts_told_and_read" 836 605
noncomputable abbrev k612 : PySem.Obj := kc "_law_term_is" "_law_term_is" 956 957 958 340 2 3 607 true 181 608 .none (.ref 609) (.ref 610) 611 961 962
noncomputable abbrev k613 : PySem.Obj := kf (Mine.top 63) "_law_term_is" "_law_term_is" "law_drawhouse_k24_parts_told_and_read" 836 612
noncomputable abbrev k617 : PySem.Obj := kc "_law_terms_are" "_law_terms_are" 964 965 966 346 2 3 614 true 181 615 .none .none .none 616 967 968
noncomputable abbrev k618 : PySem.Obj := kf (Mine.top 64) "_law_terms_are" "_law_terms_are" "law_drawhouse_k24_parts_told_and_read" 836 617
noncomputable abbrev k622 : PySem.Obj := kc "_law_is" "_law_is" 970 971 972 350 2 3 619 true 181 620 .none .none .none 621 973 974
noncomputable abbrev k623 : PySem.Obj := kf (Mine.top 65) "_law_is" "_law_is" "law_drawhouse_k24_parts_told_and_read" 836 622
noncomputable abbrev k629 : PySem.Obj := kc "_law_says" "_law_says" 976 977 978 364 2 3 624 true 181 625 .none (.ref 626) (.ref 627) 628 985 986
noncomputable abbrev k630 : PySem.Obj := kf (Mine.top 66) "_law_says" "_law_says" "law_drawhouse_k24_parts_told_and_read" 836 629
noncomputable abbrev k636 : PySem.Obj := kc "_law_made" "_law_made" 988 989 990 373 2 3 631 true 181 632 .none (.ref 633) (.ref 634) 635 998 999
noncomputable abbrev k637 : PySem.Obj := kf (Mine.top 67) "_law_made" "_law_made" "law_drawhouse_k24_parts_told_and_read" 836 636
noncomputable abbrev k641 : PySem.Obj := kc "_law_strange" "_law_strange" 1001 1002 1003 386 1 3 638 true 181 639 .none .none .none 640 1004 1005
noncomputable abbrev k642 : PySem.Obj := kf (Mine.top 68) "_law_strange" "_law_strange" "law_drawhouse_k24_parts_told_and_read" 836 641
noncomputable abbrev k646 : PySem.Obj := kc "_law_holds" "_law_holds" 1007 1008 1009 389 3 3 643 true 181 644 .none .none .none 645 1010 1011
noncomputable abbrev k647 : PySem.Obj := kf (Mine.top 69) "_law_holds" "_law_holds" "law_drawhouse_k24_parts_told_and_read" 836 646
noncomputable abbrev k651 : PySem.Obj := kc "law" "law" 1013 1014 1015 406 1 3 648 true 181 649 .none .none .none 650 1016 1017
noncomputable abbrev k652 : PySem.Obj := kf (Mine.top 70) "law" "law" "law_drawhouse_k24_parts_told_and_read" 836 651
open PySem in
noncomputable def myK : PySem.Params → PySem.W.Frag := fun P =>
  (nat_lit 2, { cls := Value.none, data := Data.dict #[] }) ::
  (nat_lit 3, { cls := .type "dict", data := .dict #[⟨PyData.keyHash P "__name__", .str "__name__" 165, .str "law_drawhouse_k24_parts_told_and_read" 836⟩, ⟨PyData.keyHash P "__doc__", .str "__doc__" 166, .none⟩, ⟨PyData.keyHash P "__package__", .str "__package__" 167, .none⟩, ⟨PyData.keyHash P "__loader__", .str "__loader__" 168, .builtin "__main__.__loader__#opaque"⟩, ⟨PyData.keyHash P "__spec__", .str "__spec__" 169, .none⟩, ⟨PyData.keyHash P "__annotations__", .str "__annotations__" 170, .ref 6⟩, ⟨PyData.keyHash P "__builtins__", .str "__builtins__" 171, .ref 4⟩, ⟨PyData.keyHash P "__file__", .str "__file__" 173, .str "/claim/cut.py" 172⟩, ⟨PyData.keyHash P "__cached__", .str "__cached__" 174, .none⟩, ⟨PyData.keyHash P "Part", .str "Part" 241, .ref 48⟩, ⟨PyData.keyHash P "HouseError", .str "HouseError" 261, .ref 62⟩, ⟨PyData.keyHash P "NoExpr", .str "NoExpr" 277, .ref 75⟩, ⟨PyData.keyHash P "NoText", .str "NoText" 302, .ref 94⟩, ⟨PyData.keyHash P "TooMany", .str "TooMany" 327, .ref 113⟩, ⟨PyData.keyHash P "Twice", .str "Twice" 352, .ref 132⟩, ⟨PyData.keyHash P "LETTERS", .str "LETTERS" 356, .str "abcdefghijklmnopqrstuvwxyz" 355⟩, ⟨PyData.keyHash P "MOST_LETTERS", .str "MOST_LETTERS" 358, .int 8 357⟩, ⟨PyData.keyHash P "MOST_NAMES", .str "MOST_NAMES" 360, .int 3 359⟩, ⟨PyData.keyHash P "is_name", .str "is_name" 366, .ref 139⟩, ⟨PyData.keyHash P "are_names", .str "are_names" 372, .ref 144⟩, ⟨PyData.keyHash P "is_address", .str "is_address" 379, .ref 151⟩, ⟨PyData.keyHash P "FIGURES", .str "FIGURES" 383, .str "0123456789" 382⟩, ⟨PyData.keyHash P "MOST_FIGURES", .str "MOST_FIGURES" 385, .int 20 384⟩, ⟨PyData.keyHash P "MOST_TERMS", .str "MOST_TERMS" 387, .int 6 386⟩, ⟨PyData.keyHash P "MOST_STEPS", .str "MOST_STEPS" 389, .int 4 388⟩, ⟨PyData.keyHash P "is_number", .str "is_number" 395, .ref 156⟩, ⟨PyData.keyHash P "read_path", .str "read_path" 402, .ref 163⟩, ⟨PyData.keyHash P "read_term", .str "read_term" 410, .ref 170⟩, ⟨PyData.keyHash P "read_sign", .str "read_sign" 417, .ref 177⟩, ⟨PyData.keyHash P "read_expr", .str "read_expr" 427, .ref 184⟩, ⟨PyData.keyHash P "show_term", .str "show_term" 436, .ref 191⟩, ⟨PyData.keyHash P "show_expr", .str "show_expr" 447, .ref 198⟩, ⟨PyData.keyHash P "has_call", .str "has_call" 453, .ref 203⟩, ⟨PyData.keyHash P "Row", .str "Row" 496, .ref 234⟩, ⟨PyData.keyHash P "Let", .str "Let" 537, .ref 269⟩, ⟨PyData.keyHash P "Deed", .str "Deed" 578, .ref 302⟩, ⟨PyData.keyHash P "Draw", .str "Draw" 626, .ref 342⟩, ⟨PyData.keyHash P "Late", .str "Late" 674, .ref 382⟩, ⟨PyData.keyHash P "Take", .str "Take" 724, .ref 422⟩, ⟨PyData.keyHash P "Need", .str "Need" 756, .ref 448⟩, ⟨PyData.keyHash P "MOST_ROWS", .str "MOST_ROWS" 760, .int 12 759⟩, ⟨PyData.keyHash P "names_expr", .str "names_expr" 767, .ref 457⟩, ⟨PyData.keyHash P "names_address", .str "names_address" 774, .ref 464⟩, ⟨PyData.keyHash P "names_word", .str "names_word" 781, .ref 471⟩, ⟨PyData.keyHash P "terms_from", .str "terms_from" 789, .ref 478⟩, ⟨PyData.keyHash P "deed_of", .str "deed_of" 797, .ref 485⟩, ⟨PyData.keyHash P "row_of", .str "row_of" 805, .ref 492⟩, ⟨PyData.keyHash P "row_at", .str "row_at" 814, .ref 499⟩, ⟨PyData.keyHash P "read_head", .str "read_head" 822, .ref 506⟩, ⟨PyData.keyHash P "read_part", .str "read_part" 835, .ref 513⟩, ⟨PyData.keyHash P "_law_cell", .str "_law_cell" 845, .ref 520⟩, ⟨PyData.keyHash P "_law_sub", .str "_law_sub" 853, .ref 527⟩, ⟨PyData.keyHash P "_law_number", .str "_law_number" 861, .ref 534⟩, ⟨PyData.keyHash P "_law_pick", .str "_law_pick" 873, .ref 541⟩, ⟨PyData.keyHash P "_law_names", .str "_law_names" 879, .ref 546⟩, ⟨PyData.keyHash P "_law_name", .str "_law_name" 885, .ref 551⟩, ⟨PyData.keyHash P "_law_label", .str "_law_label" 893, .ref 558⟩, ⟨PyData.keyHash P "_law_address", .str "_law_address" 899, .ref 563⟩, ⟨PyData.keyHash P "_law_term", .str "_law_term" 905, .ref 568⟩, ⟨PyData.keyHash P "_law_terms", .str "_law_terms" 911, .ref 573⟩, ⟨PyData.keyHash P "_law_word", .str "_law_word" 921, .ref 580⟩, ⟨PyData.keyHash P "_law_text", .str "_law_text" 930, .ref 587⟩, ⟨PyData.keyHash P "_law_row", .str "_law_row" 936, .ref 592⟩, ⟨PyData.keyHash P "_law_said", .str "_law_said" 948, .ref 599⟩, ⟨PyData.keyHash P "_law_whole", .str "_law_whole" 955, .ref 606⟩, ⟨PyData.keyHash P "_law_term_is", .str "_law_term_is" 963, .ref 613⟩, ⟨PyData.keyHash P "_law_terms_are", .str "_law_terms_are" 969, .ref 618⟩, ⟨PyData.keyHash P "_law_is", .str "_law_is" 975, .ref 623⟩, ⟨PyData.keyHash P "_law_says", .str "_law_says" 987, .ref 630⟩, ⟨PyData.keyHash P "_law_made", .str "_law_made" 1000, .ref 637⟩, ⟨PyData.keyHash P "_law_strange", .str "_law_strange" 1006, .ref 642⟩, ⟨PyData.keyHash P "_law_holds", .str "_law_holds" 1012, .ref 647⟩, ⟨PyData.keyHash P "law", .str "law" 1018, .ref 652⟩] 73 }) ::
  (nat_lit 27, k27) ::
  (nat_lit 28, k28) ::
  (nat_lit 32, k32) ::
  (nat_lit 33, k33) ::
  (nat_lit 39, k39) ::
  (nat_lit 40, k40) ::
  (nat_lit 44, k44) ::
  (nat_lit 45, k45) ::
  (nat_lit 47, k47 P) ::
  (nat_lit 48, k48) ::
  (nat_lit 49, k49) ::
  (nat_lit 50, k50) ::
  (nat_lit 61, k61 P) ::
  (nat_lit 62, k62) ::
  (nat_lit 63, k63) ::
  (nat_lit 74, k74 P) ::
  (nat_lit 75, k75) ::
  (nat_lit 90, k90) ::
  (nat_lit 91, k91) ::
  (nat_lit 93, k93 P) ::
  (nat_lit 94, k94) ::
  (nat_lit 109, k109) ::
  (nat_lit 110, k110) ::
  (nat_lit 112, k112 P) ::
  (nat_lit 113, k113) ::
  (nat_lit 128, k128) ::
  (nat_lit 129, k129) ::
  (nat_lit 131, k131 P) ::
  (nat_lit 132, k132) ::
  (nat_lit 138, k138) ::
  (nat_lit 139, k139) ::
  (nat_lit 143, k143) ::
  (nat_lit 144, k144) ::
  (nat_lit 150, k150) ::
  (nat_lit 151, k151) ::
  (nat_lit 155, k155) ::
  (nat_lit 156, k156) ::
  (nat_lit 162, k162) ::
  (nat_lit 163, k163) ::
  (nat_lit 169, k169) ::
  (nat_lit 170, k170) ::
  (nat_lit 176, k176) ::
  (nat_lit 177, k177) ::
  (nat_lit 183, k183) ::
  (nat_lit 184, k184) ::
  (nat_lit 190, k190) ::
  (nat_lit 191, k191) ::
  (nat_lit 197, k197) ::
  (nat_lit 198, k198) ::
  (nat_lit 202, k202) ::
  (nat_lit 203, k203) ::
  (nat_lit 216, k216) ::
  (nat_lit 217, k217) ::
  (nat_lit 223, k223) ::
  (nat_lit 224, k224) ::
  (nat_lit 230, k230) ::
  (nat_lit 231, k231) ::
  (nat_lit 233, k233 P) ::
  (nat_lit 234, k234) ::
  (nat_lit 235, k235) ::
  (nat_lit 236, k236) ::
  (nat_lit 251, k251) ::
  (nat_lit 252, k252) ::
  (nat_lit 258, k258) ::
  (nat_lit 259, k259) ::
  (nat_lit 265, k265) ::
  (nat_lit 266, k266) ::
  (nat_lit 268, k268 P) ::
  (nat_lit 269, k269) ::
  (nat_lit 284, k284) ::
  (nat_lit 285, k285) ::
  (nat_lit 291, k291) ::
  (nat_lit 292, k292) ::
  (nat_lit 298, k298) ::
  (nat_lit 299, k299) ::
  (nat_lit 301, k301 P) ::
  (nat_lit 302, k302) ::
  (nat_lit 317, k317) ::
  (nat_lit 318, k318) ::
  (nat_lit 324, k324) ::
  (nat_lit 325, k325) ::
  (nat_lit 331, k331) ::
  (nat_lit 332, k332) ::
  (nat_lit 338, k338) ::
  (nat_lit 339, k339) ::
  (nat_lit 341, k341 P) ::
  (nat_lit 342, k342) ::
  (nat_lit 357, k357) ::
  (nat_lit 358, k358) ::
  (nat_lit 364, k364) ::
  (nat_lit 365, k365) ::
  (nat_lit 371, k371) ::
  (nat_lit 372, k372) ::
  (nat_lit 378, k378) ::
  (nat_lit 379, k379) ::
  (nat_lit 381, k381 P) ::
  (nat_lit 382, k382) ::
  (nat_lit 397, k397) ::
  (nat_lit 398, k398) ::
  (nat_lit 404, k404) ::
  (nat_lit 405, k405) ::
  (nat_lit 411, k411) ::
  (nat_lit 412, k412) ::
  (nat_lit 418, k418) ::
  (nat_lit 419, k419) ::
  (nat_lit 421, k421 P) ::
  (nat_lit 422, k422) ::
  (nat_lit 437, k437) ::
  (nat_lit 438, k438) ::
  (nat_lit 444, k444) ::
  (nat_lit 445, k445) ::
  (nat_lit 447, k447 P) ::
  (nat_lit 448, k448) ::
  (nat_lit 456, k456) ::
  (nat_lit 457, k457) ::
  (nat_lit 463, k463) ::
  (nat_lit 464, k464) ::
  (nat_lit 470, k470) ::
  (nat_lit 471, k471) ::
  (nat_lit 477, k477) ::
  (nat_lit 478, k478) ::
  (nat_lit 484, k484) ::
  (nat_lit 485, k485) ::
  (nat_lit 491, k491) ::
  (nat_lit 492, k492) ::
  (nat_lit 498, k498) ::
  (nat_lit 499, k499) ::
  (nat_lit 505, k505) ::
  (nat_lit 506, k506) ::
  (nat_lit 512, k512) ::
  (nat_lit 513, k513) ::
  (nat_lit 519, k519) ::
  (nat_lit 520, k520) ::
  (nat_lit 526, k526) ::
  (nat_lit 527, k527) ::
  (nat_lit 533, k533) ::
  (nat_lit 534, k534) ::
  (nat_lit 540, k540) ::
  (nat_lit 541, k541) ::
  (nat_lit 545, k545) ::
  (nat_lit 546, k546) ::
  (nat_lit 550, k550) ::
  (nat_lit 551, k551) ::
  (nat_lit 557, k557) ::
  (nat_lit 558, k558) ::
  (nat_lit 562, k562) ::
  (nat_lit 563, k563) ::
  (nat_lit 567, k567) ::
  (nat_lit 568, k568) ::
  (nat_lit 572, k572) ::
  (nat_lit 573, k573) ::
  (nat_lit 579, k579) ::
  (nat_lit 580, k580) ::
  (nat_lit 586, k586) ::
  (nat_lit 587, k587) ::
  (nat_lit 591, k591) ::
  (nat_lit 592, k592) ::
  (nat_lit 598, k598) ::
  (nat_lit 599, k599) ::
  (nat_lit 605, k605) ::
  (nat_lit 606, k606) ::
  (nat_lit 612, k612) ::
  (nat_lit 613, k613) ::
  (nat_lit 617, k617) ::
  (nat_lit 618, k618) ::
  (nat_lit 622, k622) ::
  (nat_lit 623, k623) ::
  (nat_lit 629, k629) ::
  (nat_lit 630, k630) ::
  (nat_lit 636, k636) ::
  (nat_lit 637, k637) ::
  (nat_lit 641, k641) ::
  (nat_lit 642, k642) ::
  (nat_lit 646, k646) ::
  (nat_lit 647, k647) ::
  (nat_lit 651, k651) ::
  (nat_lit 652, k652) ::
  []
end Mine
set_option maxHeartbeats 0
namespace Hd
open PySem PySem.W PySem.Calls PyProof.Rows
noncomputable def put (t : BT) : Nat → Obj → BT := BT.rec (motive := fun _ => Nat → Obj → BT) (fun _ o => .node o .nil .nil) (fun v l r x y i o => match i with | 0 => .node o l r | j + 1 => bif Nat.beq (j % 2) 0 then .node v (x (j / 2) o) r else .node v l (y (j / 2) o)) t
noncomputable def puts (t : BT) (l : List (Nat × Obj)) : BT := l.foldl (fun t p => put t p.1 p.2) t
noncomputable def en (P : Params) (x : Str) (t : Nat) (v : Value) : DictEntry := ⟨PyData.keyHash P x, .str x t, v⟩
noncomputable def fo (s : Stmt) (n q m : Str) (t c : Nat) : Obj := ⟨.type "function", none, .func { name := n, qualname := q, params := L2.defArgs s, body := .stmts (L2.defBody s), scope := L2.defScope s, globals := 3, closure := [], defaults := .none, kwdefaults := .none, pyModule := .str m t, code := .ref c }, #[]⟩
noncomputable def pf (s : Stmt) (n q : Str) : Obj := ⟨.none, none, .func { name := n, qualname := q, params := L2.defArgs s, body := .stmts (L2.defBody s), scope := L2.defScope s, globals := 0, closure := [], defaults := .none, kwdefaults := .none }, #[]⟩
noncomputable def tu (l : List Value) : Obj := ⟨.type "tuple", none, .seq l.toArray, #[]⟩
noncomputable def eT : Obj := tu []
noncomputable def eF : Obj := { cls := .none, data := .fields #[] }
noncomputable def co (n q : Str) (a b c : Nat) (l k : Int) (f r : Nat) (t : Bool) (g : Int) (u : Nat) (x y z : Value) (v : Nat) (m : Int) (e : Nat) : Obj := { cls := .type "code", data := .fields #[.str n a, .str q b, .str "/claim/cut.py" c, .int l 0, .int k 0, .int 0 0, .int 0 0, .int f 0, .ref r, .bool t, .int g 0, .ref u, x, y, z, .ref v, .int m 0, .int l 0, .str "/claim/cut.py" e] }
noncomputable def env : Env := { scope := PySem.Challenge.pw_drawhouse_k24_parts_told_and_read.main.scope, locals := mainNs, globals := mainNs, cells := [], code := Value.ref 13, frame := some 14 }
noncomputable def cE : Code := .body (behindTheImports PySem.Challenge.pw_drawhouse_k24_parts_told_and_read) env
noncomputable def fr : List Frame := [topFrame { line := 0, col := 0, endLine := 0, endCol := 0 }]
noncomputable def sl (a n : Nat) : List Stmt := ((behindTheImports PySem.Challenge.pw_drawhouse_k24_parts_told_and_read).drop a).take n
noncomputable def o13 : Obj := { cls := .type "code", data := .fields #[.str "<module>" 182, .str "<module>" 183, .str "/claim/cut.py" 184, .int 1 0, .int 0 0, .int 0 0, .int 0 0, .int 0 0, .ref 11, .bool false, .int 181 0, .ref 12, .none, .none, .none, .none, .int 185 0, .int 1 0, .str "/claim/cut.py" 186] }
noncomputable def o14 : Obj := { cls := .type "frame", slots := #[some (.ref 13), some (.ref 3), some (.ref 3), none, some (.str "__main__" 164), none, some (.ref 0)] }
noncomputable def hA0 (P : Params) (r : List Obj) : List Obj := (boot_o_0 P) :: (boot_o_1 P) :: (boot_o_2 P) :: (boot_o_3 P) :: (boot_o_4 P) :: (boot_o_5 P) :: (boot_o_6 P) :: (boot_o_7 P) :: (boot_o_8 P) :: (boot_o_9 P) :: (boot_o_10 P) :: eT :: ({ cls := .none, data := .fields #[] }) :: o13 :: o14 :: r
noncomputable def hA (P : Params) : Heap := ⟨Array.mk (hA0 P ([])), { }⟩
noncomputable def Lp (w : World) (os : OsState) : Option (Shared × Thread) := topGo treeTable PySem.Challenge.pw_drawhouse_k24_parts_told_and_read w 11 (some (Value.ref 6)) 12 ⟨boot_heap w.params, Array.mk [], boot_drawn, boot_toks, os⟩ (topStub PySem.Challenge.pw_drawhouse_k24_parts_told_and_read)
noncomputable def Rp (w : World) (os : OsState) : Option (Shared × Thread) := some (⟨hA w.params, Array.mk [], { }, nat_lit 187, os⟩, ⟨denote treeTable cE, cE, { line := 0, col := 0, endLine := 0, endCol := 0 }, fr⟩)
theorem rLp : Lp = Lp := rfl
name_quick Lp for Hd.Lp by Hd.rLp
theorem rRp : Rp = Rp := rfl
name_quick Rp for Hd.Rp by Hd.rRp
theorem qp : PySem.W.Fast.Lp = PySem.W.Fast.Rp := by kernel_rfl
theorem ep : Lp = Rp := PySem.W.Fast.Lp_eq.trans (qp.trans PySem.W.Fast.Rp_eq.symm)
noncomputable def t0x0 (P : Params) : BT := puts .nil ((0, boot_o_0 P) :: (1, boot_o_1 P) :: (2, boot_o_2 P) :: (3, boot_o_3 P) :: (4, boot_o_4 P) :: (5, boot_o_5 P) :: (6, boot_o_6 P) :: (7, boot_o_7 P) :: (8, boot_o_8 P) :: (9, boot_o_9 P) :: (10, boot_o_10 P) :: (11, eT) :: [])
noncomputable def t0 (P : Params) : BT := puts (t0x0 P) ((12, { cls := .none, data := .fields #[] }) :: (13, o13) :: (14, o14) :: [])
noncomputable def Lb (w : World) (os : OsState) : Option (Flow × Shared × Code × Pos) := segRun treeTable PySem.Challenge.pw_drawhouse_k24_parts_told_and_read w 11 (some (Value.ref 6)) 1 1 ⟨hA w.params, Array.mk [], { }, nat_lit 187, os⟩ (blockOf (behindTheImports PySem.Challenge.pw_drawhouse_k24_parts_told_and_read) env cE { line := 0, col := 0, endLine := 0, endCol := 0 } fr)
noncomputable def Rb (w : World) (os : OsState) : Option (Flow × Shared × Code × Pos) := some (.next, SharedT.abs ⟨t0 w.params, nat_lit 15, { }, Array.mk [], { }, nat_lit 187, os⟩, cE, { line := 0, col := 0, endLine := 0, endCol := 0 })
theorem rLb : Lb = Lb := rfl
name_quick Lb for Hd.Lb by Hd.rLb
theorem rRb : Rb = Rb := rfl
name_quick Rb for Hd.Rb by Hd.rRb
theorem qb : PySem.W.Fast.Lb = PySem.W.Fast.Rb := by kernel_rfl
theorem eb : Lb = Rb := PySem.W.Fast.Lb_eq.trans (qb.trans PySem.W.Fast.Rb_eq.symm)
noncomputable def n0 (P : Params) (r : List DictEntry) : List DictEntry := en P "__name__" 165 (.str "drawhouse.errors" 242) :: en P "__doc__" 166 .none :: en P "__package__" 167 .none :: en P "__loader__" 168 (.builtin "__main__.__loader__#opaque") :: en P "__spec__" 169 .none :: en P "__annotations__" 170 (.ref 6) :: en P "__builtins__" 171 (.ref 4) :: en P "__file__" 173 (.str "/claim/cut.py" 172) :: en P "__cached__" 174 .none :: en P "Part" 241 (.ref 48) :: en P "HouseError" 261 (.ref 62) :: en P "NoExpr" 277 (.ref 75) :: r
noncomputable def o16 : Obj := { cls := .type "builtin_function_or_method", data := .fields #[.builtin "type.__prepare__", .type "type"] }
noncomputable def o17 (P : Params) : Obj := { cls := .type "dict", data := .dict #[en P "__module__" 196 (.str "drawhouse.parts" 187), en P "__qualname__" 198 (.str "Part" 197), en P "__firstlineno__" 200 (.int 2 199), en P "__init__" 209 (.ref 28), en P "bound" 215 (.ref 33), en P "place_of" 225 (.ref 40), en P "text" 231 (.ref 45), en P "__static_attributes__" 234 (.ref 46)] 8 }
noncomputable def o19 : Obj := { cls := .none, data := .fields #[.int 4 0, .int 4 0, .ref 27, .int 8 0, .int 4 0, .ref 32, .int 12 0, .int 4 0, .ref 39, .int 20 0, .int 4 0, .ref 44] }
noncomputable def o20 : Obj := { cls := .type "code", data := .fields #[.str "Part" 191, .str "Part" 192, .str "/claim/cut.py" 193, .int 2 0, .int 0 0, .int 0 0, .int 0 0, .int 0 0, .ref 18, .bool false, .int 181 0, .ref 19, .none, .none, .none, .none, .int 194 0, .int 2 0, .str "/claim/cut.py" 195] }
noncomputable def o21 : Obj := { cls := .type "frame", slots := #[some (.ref 20), some (.ref 3), some (.ref 17), none, some (.str "drawhouse.parts" 187), none, some (.ref 0)] }
noncomputable def o24 : Obj := tu [.str "self" 204, .str "address" 205, .str "rows" 206]
noncomputable def o26 : Obj := pf ((Mine.clsBody (Mine.top 1)).getD 0 (.Pass ⟨0, 0, 0, 0⟩)) "__init__" "Part.__init__"
noncomputable def o31 : Obj := pf ((Mine.clsBody (Mine.top 1)).getD 1 (.Pass ⟨0, 0, 0, 0⟩)) "bound" "Part.bound"
noncomputable def o36 : Obj := tu [.str "self" 219, .str "name" 220, .str "at" 221, .str "row" 222]
noncomputable def o38 : Obj := pf ((Mine.clsBody (Mine.top 1)).getD 2 (.Pass ⟨0, 0, 0, 0⟩)) "place_of" "Part.place_of"
noncomputable def o43 : Obj := pf ((Mine.clsBody (Mine.top 1)).getD 3 (.Pass ⟨0, 0, 0, 0⟩)) "text" "Part.text"
noncomputable def o46 : Obj := tu [.str "address" 232, .str "rows" 233]
noncomputable def o51 : Obj := { cls := .type "super", data := .fields #[.ref 48, .ref 48, .ref 48] }
noncomputable def o52 : Obj := { cls := .type "builtin_function_or_method", data := .fields #[.builtin "object.__init_subclass__", .ref 48] }
noncomputable def o53 : Obj := tu [.type "ValueError"]
noncomputable def o54 : Obj := { cls := .type "builtin_function_or_method", data := .fields #[.builtin "type.__prepare__", .type "type"] }
noncomputable def o55 (P : Params) : Obj := { cls := .type "dict", data := .dict #[en P "__module__" 251 (.str "drawhouse.errors" 242), en P "__qualname__" 253 (.str "HouseError" 252), en P "__firstlineno__" 255 (.int 23 254), en P "__static_attributes__" 256 (.ref 60)] 4 }
noncomputable def o58 : Obj := { cls := .type "code", data := .fields #[.str "HouseError" 246, .str "HouseError" 247, .str "/claim/cut.py" 248, .int 23 0, .int 0 0, .int 0 0, .int 0 0, .int 0 0, .ref 56, .bool false, .int 181 0, .ref 57, .none, .none, .none, .none, .int 249 0, .int 23 0, .str "/claim/cut.py" 250] }
noncomputable def o59 : Obj := { cls := .type "frame", slots := #[some (.ref 58), some (.ref 3), some (.ref 55), none, some (.str "drawhouse.errors" 242), none, some (.ref 0)] }
noncomputable def o64 : Obj := { cls := .type "super", data := .fields #[.ref 62, .ref 62, .ref 62] }
noncomputable def o65 : Obj := { cls := .type "builtin_function_or_method", data := .fields #[.builtin "object.__init_subclass__", .ref 62] }
noncomputable def o66 : Obj := tu [.ref 62]
noncomputable def o67 : Obj := { cls := .type "builtin_function_or_method", data := .fields #[.builtin "type.__prepare__", .type "type"] }
noncomputable def o68 (P : Params) : Obj := { cls := .type "dict", data := .dict #[en P "__module__" 269 (.str "drawhouse.errors" 242), en P "__qualname__" 271 (.str "NoExpr" 270), en P "__firstlineno__" 273 (.int 25 272), en P "__static_attributes__" 274 (.ref 73)] 4 }
noncomputable def o71 : Obj := { cls := .type "code", data := .fields #[.str "NoExpr" 264, .str "NoExpr" 265, .str "/claim/cut.py" 266, .int 25 0, .int 0 0, .int 0 0, .int 0 0, .int 0 0, .ref 69, .bool false, .int 181 0, .ref 70, .none, .none, .none, .none, .int 267 0, .int 25 0, .str "/claim/cut.py" 268] }
noncomputable def o72 : Obj := { cls := .type "frame", slots := #[some (.ref 71), some (.ref 3), some (.ref 68), none, some (.str "drawhouse.errors" 242), none, some (.ref 0)] }
noncomputable def o76 : Obj := { cls := .type "super", data := .fields #[.ref 75, .ref 75, .ref 75] }
noncomputable def o77 : Obj := { cls := .type "builtin_function_or_method", data := .fields #[.builtin "object.__init_subclass__", .ref 75] }
noncomputable def t1x0 (P : Params) : BT := puts (t0 P) ((3, { cls := .type "dict", data := .dict (List.toArray (n0 P ([]))) 12 }) :: (12, { cls := .none, data := .fields #[.int 2 0, .int 0 0, .ref 20, .int 23 0, .int 0 0, .ref 58, .int 25 0, .int 0 0, .ref 71] }) :: (15, eT) :: (16, o16) :: (17, o17 P) :: (18, eT) :: (19, o19) :: (20, o20) :: (21, o21) :: (22, eT) :: (23, eF) :: (24, o24) :: [])
noncomputable def t1x1 (P : Params) : BT := puts (t1x0 P) ((25, eT) :: (26, o26) :: (27, Mine.k27) :: (28, Mine.k28) :: (29, eT) :: (30, eF) :: (31, o31) :: (32, Mine.k32) :: (33, Mine.k33) :: (34, eT) :: (35, eF) :: (36, o36) :: [])
noncomputable def t1x2 (P : Params) : BT := puts (t1x1 P) ((37, eT) :: (38, o38) :: (39, Mine.k39) :: (40, Mine.k40) :: (41, eT) :: (42, eF) :: (43, o43) :: (44, Mine.k44) :: (45, Mine.k45) :: (46, o46) :: (47, Mine.k47 P) :: (48, Mine.k48) :: [])
noncomputable def t1x3 (P : Params) : BT := puts (t1x2 P) ((49, Mine.k49) :: (50, Mine.k50) :: (51, o51) :: (52, o52) :: (53, o53) :: (54, o54) :: (55, o55 P) :: (56, eT) :: (57, eF) :: (58, o58) :: (59, o59) :: (60, eT) :: [])
noncomputable def t1x4 (P : Params) : BT := puts (t1x3 P) ((61, Mine.k61 P) :: (62, { cls := .type "type", data := .cls { name := Str.ofString "HouseError", bases := [.type "ValueError"], mro := [.ref 62, .type "ValueError", .type "Exception", .type "BaseException", .type "object"], ns := 61, qualname := Str.ofString "HouseError", subclasses := [.ref 75] }, slots := #[some (.ref 53), none, some (.str "HouseError" 244), some (.str "HouseError" 252), some (.builtin "ValueError.__new__"), some (.bool true)] }) :: (63, Mine.k63) :: (64, o64) :: (65, o65) :: (66, o66) :: (67, o67) :: (68, o68 P) :: (69, eT) :: (70, eF) :: (71, o71) :: (72, o72) :: [])
noncomputable def t1 (P : Params) : BT := puts (t1x4 P) ((73, eT) :: (74, Mine.k74 P) :: (75, Mine.k75) :: (76, o76) :: (77, o77) :: [])
noncomputable def L0 (w : World) (os : OsState) : Option (Flow × SharedT × Code × Pos) := segRunT treeTable PySem.Challenge.pw_drawhouse_k24_parts_told_and_read w 11 (some (Value.ref 6)) 1 732 ⟨t0 w.params, nat_lit 15, { }, Array.mk [], { }, nat_lit 187, os⟩ (piecesOf (sl 0 5) env cE { line := 0, col := 0, endLine := 0, endCol := 0 } fr)
noncomputable def R0 (w : World) (os : OsState) : Option (Flow × SharedT × Code × Pos) := some (.next, ⟨t1 w.params, nat_lit 78, { }, Array.mk [], { }, nat_lit 278, os⟩, cE, { line := 25, col := 0, endLine := 26, endCol := 8 })
theorem rL0 : L0 = L0 := rfl
name_quick L0 for Hd.L0 by Hd.rL0
theorem rR0 : R0 = R0 := rfl
name_quick R0 for Hd.R0 by Hd.rR0
theorem q0 : PySem.W.Fast.L0 = PySem.W.Fast.R0 := by kernel_rfl
theorem e0 : L0 = R0 := PySem.W.Fast.L0_eq.trans (q0.trans PySem.W.Fast.R0_eq.symm)
noncomputable def n1 (P : Params) (r : List DictEntry) : List DictEntry := en P "__name__" 165 (.str "drawhouse.words" 353) :: en P "__doc__" 166 .none :: en P "__package__" 167 .none :: en P "__loader__" 168 (.builtin "__main__.__loader__#opaque") :: en P "__spec__" 169 .none :: en P "__annotations__" 170 (.ref 6) :: en P "__builtins__" 171 (.ref 4) :: en P "__file__" 173 (.str "/claim/cut.py" 172) :: en P "__cached__" 174 .none :: en P "Part" 241 (.ref 48) :: en P "HouseError" 261 (.ref 62) :: en P "NoExpr" 277 (.ref 75) :: en P "NoText" 302 (.ref 94) :: en P "TooMany" 327 (.ref 113) :: en P "Twice" 352 (.ref 132) :: en P "LETTERS" 356 (.str "abcdefghijklmnopqrstuvwxyz" 355) :: en P "MOST_LETTERS" 358 (.int 8 357) :: en P "MOST_NAMES" 360 (.int 3 359) :: en P "is_name" 366 (.ref 139) :: r
noncomputable def o78 : Obj := tu [.ref 62]
noncomputable def o79 : Obj := { cls := .type "builtin_function_or_method", data := .fields #[.builtin "type.__prepare__", .type "type"] }
noncomputable def o80 (P : Params) : Obj := { cls := .type "dict", data := .dict #[en P "__module__" 285 (.str "drawhouse.errors" 242), en P "__qualname__" 287 (.str "NoText" 286), en P "__firstlineno__" 289 (.int 27 288), en P "__init__" 297 (.ref 91), en P "__static_attributes__" 299 (.ref 92)] 5 }
noncomputable def o82 : Obj := { cls := .none, data := .fields #[.int 29 0, .int 4 0, .ref 90] }
noncomputable def o83 : Obj := { cls := .type "code", data := .fields #[.str "NoText" 280, .str "NoText" 281, .str "/claim/cut.py" 282, .int 27 0, .int 0 0, .int 0 0, .int 0 0, .int 0 0, .ref 81, .bool false, .int 181 0, .ref 82, .none, .none, .none, .none, .int 283 0, .int 27 0, .str "/claim/cut.py" 284] }
noncomputable def o84 : Obj := { cls := .type "frame", slots := #[some (.ref 83), some (.ref 3), some (.ref 80), none, some (.str "drawhouse.errors" 242), none, some (.ref 0)] }
noncomputable def o87 : Obj := tu [.str "self" 293, .str "at" 294]
noncomputable def o89 : Obj := pf ((Mine.clsBody (Mine.top 5)).getD 0 (.Pass ⟨0, 0, 0, 0⟩)) "__init__" "NoText.__init__"
noncomputable def o92 : Obj := tu [.str "at" 298]
noncomputable def o95 : Obj := { cls := .type "super", data := .fields #[.ref 94, .ref 94, .ref 94] }
noncomputable def o96 : Obj := { cls := .type "builtin_function_or_method", data := .fields #[.builtin "object.__init_subclass__", .ref 94] }
noncomputable def o97 : Obj := tu [.ref 62]
noncomputable def o98 : Obj := { cls := .type "builtin_function_or_method", data := .fields #[.builtin "type.__prepare__", .type "type"] }
noncomputable def o99 (P : Params) : Obj := { cls := .type "dict", data := .dict #[en P "__module__" 310 (.str "drawhouse.errors" 242), en P "__qualname__" 312 (.str "TooMany" 311), en P "__firstlineno__" 314 (.int 32 313), en P "__init__" 322 (.ref 110), en P "__static_attributes__" 324 (.ref 111)] 5 }
noncomputable def o101 : Obj := { cls := .none, data := .fields #[.int 34 0, .int 4 0, .ref 109] }
noncomputable def o102 : Obj := { cls := .type "code", data := .fields #[.str "TooMany" 305, .str "TooMany" 306, .str "/claim/cut.py" 307, .int 32 0, .int 0 0, .int 0 0, .int 0 0, .int 0 0, .ref 100, .bool false, .int 181 0, .ref 101, .none, .none, .none, .none, .int 308 0, .int 32 0, .str "/claim/cut.py" 309] }
noncomputable def o103 : Obj := { cls := .type "frame", slots := #[some (.ref 102), some (.ref 3), some (.ref 99), none, some (.str "drawhouse.errors" 242), none, some (.ref 0)] }
noncomputable def o106 : Obj := tu [.str "self" 318, .str "at" 319]
noncomputable def o108 : Obj := pf ((Mine.clsBody (Mine.top 6)).getD 0 (.Pass ⟨0, 0, 0, 0⟩)) "__init__" "TooMany.__init__"
noncomputable def o111 : Obj := tu [.str "at" 323]
noncomputable def o114 : Obj := { cls := .type "super", data := .fields #[.ref 113, .ref 113, .ref 113] }
noncomputable def o115 : Obj := { cls := .type "builtin_function_or_method", data := .fields #[.builtin "object.__init_subclass__", .ref 113] }
noncomputable def o116 : Obj := tu [.ref 62]
noncomputable def o117 : Obj := { cls := .type "builtin_function_or_method", data := .fields #[.builtin "type.__prepare__", .type "type"] }
noncomputable def o118 (P : Params) : Obj := { cls := .type "dict", data := .dict #[en P "__module__" 335 (.str "drawhouse.errors" 242), en P "__qualname__" 337 (.str "Twice" 336), en P "__firstlineno__" 339 (.int 37 338), en P "__init__" 347 (.ref 129), en P "__static_attributes__" 349 (.ref 130)] 5 }
noncomputable def o120 : Obj := { cls := .none, data := .fields #[.int 39 0, .int 4 0, .ref 128] }
noncomputable def o121 : Obj := { cls := .type "code", data := .fields #[.str "Twice" 330, .str "Twice" 331, .str "/claim/cut.py" 332, .int 37 0, .int 0 0, .int 0 0, .int 0 0, .int 0 0, .ref 119, .bool false, .int 181 0, .ref 120, .none, .none, .none, .none, .int 333 0, .int 37 0, .str "/claim/cut.py" 334] }
noncomputable def o122 : Obj := { cls := .type "frame", slots := #[some (.ref 121), some (.ref 3), some (.ref 118), none, some (.str "drawhouse.errors" 242), none, some (.ref 0)] }
noncomputable def o125 : Obj := tu [.str "self" 343, .str "at" 344]
noncomputable def o127 : Obj := pf ((Mine.clsBody (Mine.top 7)).getD 0 (.Pass ⟨0, 0, 0, 0⟩)) "__init__" "Twice.__init__"
noncomputable def o130 : Obj := tu [.str "at" 348]
noncomputable def o133 : Obj := { cls := .type "super", data := .fields #[.ref 132, .ref 132, .ref 132] }
noncomputable def o134 : Obj := { cls := .type "builtin_function_or_method", data := .fields #[.builtin "object.__init_subclass__", .ref 132] }
noncomputable def o137 : Obj := pf (Mine.top 12) "is_name" "is_name"
noncomputable def t2x0 (P : Params) : BT := puts (t1 P) ((3, { cls := .type "dict", data := .dict (List.toArray (n1 P ([]))) 19 }) :: (12, { cls := .none, data := .fields #[.int 2 0, .int 0 0, .ref 20, .int 23 0, .int 0 0, .ref 58, .int 25 0, .int 0 0, .ref 71, .int 27 0, .int 0 0, .ref 83, .int 32 0, .int 0 0, .ref 102, .int 37 0, .int 0 0, .ref 121, .int 46 0, .int 0 0, .ref 138] }) :: (62, Mine.k62) :: (78, o78) :: (79, o79) :: (80, o80 P) :: (81, eT) :: (82, o82) :: (83, o83) :: (84, o84) :: (85, eT) :: (86, eF) :: [])
noncomputable def t2x1 (P : Params) : BT := puts (t2x0 P) ((87, o87) :: (88, eT) :: (89, o89) :: (90, Mine.k90) :: (91, Mine.k91) :: (92, o92) :: (93, Mine.k93 P) :: (94, Mine.k94) :: (95, o95) :: (96, o96) :: (97, o97) :: (98, o98) :: [])
noncomputable def t2x2 (P : Params) : BT := puts (t2x1 P) ((99, o99 P) :: (100, eT) :: (101, o101) :: (102, o102) :: (103, o103) :: (104, eT) :: (105, eF) :: (106, o106) :: (107, eT) :: (108, o108) :: (109, Mine.k109) :: (110, Mine.k110) :: [])
noncomputable def t2x3 (P : Params) : BT := puts (t2x2 P) ((111, o111) :: (112, Mine.k112 P) :: (113, Mine.k113) :: (114, o114) :: (115, o115) :: (116, o116) :: (117, o117) :: (118, o118 P) :: (119, eT) :: (120, o120) :: (121, o121) :: (122, o122) :: [])
noncomputable def t2x4 (P : Params) : BT := puts (t2x3 P) ((123, eT) :: (124, eF) :: (125, o125) :: (126, eT) :: (127, o127) :: (128, Mine.k128) :: (129, Mine.k129) :: (130, o130) :: (131, Mine.k131 P) :: (132, Mine.k132) :: (133, o133) :: (134, o134) :: [])
noncomputable def t2 (P : Params) : BT := puts (t2x4 P) ((135, eT) :: (136, eF) :: (137, o137) :: (138, Mine.k138) :: (139, Mine.k139) :: [])
noncomputable def L1 (w : World) (os : OsState) : Option (Flow × SharedT × Code × Pos) := segRunT treeTable PySem.Challenge.pw_drawhouse_k24_parts_told_and_read w 11 (some (Value.ref 6)) 1 798 ⟨t1 w.params, nat_lit 78, { }, Array.mk [], { }, nat_lit 278, os⟩ (piecesOf (sl 5 8) env cE { line := 25, col := 0, endLine := 26, endCol := 8 } fr)
noncomputable def R1 (w : World) (os : OsState) : Option (Flow × SharedT × Code × Pos) := some (.next, ⟨t2 w.params, nat_lit 140, { }, Array.mk [], { }, nat_lit 367, os⟩, cE, { line := 46, col := 0, endLine := 51, endCol := 51 })
theorem rL1 : L1 = L1 := rfl
name_quick L1 for Hd.L1 by Hd.rL1
theorem rR1 : R1 = R1 := rfl
name_quick R1 for Hd.R1 by Hd.rR1
theorem q1 : PySem.W.Fast.L1 = PySem.W.Fast.R1 := by kernel_rfl
theorem e1 : L1 = R1 := PySem.W.Fast.L1_eq.trans (q1.trans PySem.W.Fast.R1_eq.symm)
noncomputable def n2 (P : Params) (r : List DictEntry) : List DictEntry := en P "__name__" 165 (.str "drawhouse.rows" 454) :: en P "__doc__" 166 .none :: en P "__package__" 167 .none :: en P "__loader__" 168 (.builtin "__main__.__loader__#opaque") :: en P "__spec__" 169 .none :: en P "__annotations__" 170 (.ref 6) :: en P "__builtins__" 171 (.ref 4) :: en P "__file__" 173 (.str "/claim/cut.py" 172) :: en P "__cached__" 174 .none :: en P "Part" 241 (.ref 48) :: en P "HouseError" 261 (.ref 62) :: en P "NoExpr" 277 (.ref 75) :: en P "NoText" 302 (.ref 94) :: en P "TooMany" 327 (.ref 113) :: en P "Twice" 352 (.ref 132) :: en P "LETTERS" 356 (.str "abcdefghijklmnopqrstuvwxyz" 355) :: en P "MOST_LETTERS" 358 (.int 8 357) :: en P "MOST_NAMES" 360 (.int 3 359) :: en P "is_name" 366 (.ref 139) :: en P "are_names" 372 (.ref 144) :: en P "is_address" 379 (.ref 151) :: en P "FIGURES" 383 (.str "0123456789" 382) :: en P "MOST_FIGURES" 385 (.int 20 384) :: en P "MOST_TERMS" 387 (.int 6 386) :: en P "MOST_STEPS" 389 (.int 4 388) :: en P "is_number" 395 (.ref 156) :: en P "read_path" 402 (.ref 163) :: en P "read_term" 410 (.ref 170) :: en P "read_sign" 417 (.ref 177) :: en P "read_expr" 427 (.ref 184) :: en P "show_term" 436 (.ref 191) :: en P "show_expr" 447 (.ref 198) :: en P "has_call" 453 (.ref 203) :: en P "Row" 496 (.ref 234) :: r
noncomputable def o142 : Obj := pf (Mine.top 13) "are_names" "are_names"
noncomputable def o147 : Obj := tu [.str "thing" 376]
noncomputable def o149 : Obj := pf (Mine.top 14) "is_address" "is_address"
noncomputable def o154 : Obj := pf (Mine.top 20) "is_number" "is_number"
noncomputable def o159 : Obj := tu [.str "word" 399]
noncomputable def o161 : Obj := pf (Mine.top 21) "read_path" "read_path"
noncomputable def o166 : Obj := tu [.str "sign" 406, .str "word" 407]
noncomputable def o168 : Obj := pf (Mine.top 22) "read_term" "read_term"
noncomputable def o173 : Obj := tu [.str "word" 414]
noncomputable def o175 : Obj := pf (Mine.top 23) "read_sign" "read_sign"
noncomputable def o180 : Obj := tu [.str "text" 421, .str "words" 422, .str "terms" 423, .str "at" 424]
noncomputable def o182 : Obj := pf (Mine.top 24) "read_expr" "read_expr"
noncomputable def o187 : Obj := tu [.str "kind" 431, .str "thing" 432, .str "path" 433]
noncomputable def o189 : Obj := pf (Mine.top 25) "show_term" "show_term"
noncomputable def o194 : Obj := tu [.str "terms" 440, .str "shown" 441, .str "sign" 442, .str "kind" 443, .str "thing" 444]
noncomputable def o196 : Obj := pf (Mine.top 26) "show_expr" "show_expr"
noncomputable def o201 : Obj := pf (Mine.top 27) "has_call" "has_call"
noncomputable def o205 : Obj := { cls := .type "builtin_function_or_method", data := .fields #[.builtin "type.__prepare__", .type "type"] }
noncomputable def o206 (P : Params) : Obj := { cls := .type "dict", data := .dict #[en P "__module__" 463 (.str "drawhouse.rows" 454), en P "__qualname__" 465 (.str "Row" 464), en P "__firstlineno__" 467 (.int 113 466), en P "binds" 474 (.ref 217), en P "asked" 481 (.ref 224), en P "said" 488 (.ref 231), en P "__static_attributes__" 489 (.ref 232)] 7 }
noncomputable def o208 : Obj := { cls := .none, data := .fields #[.int 115 0, .int 4 0, .ref 216, .int 118 0, .int 4 0, .ref 223, .int 121 0, .int 4 0, .ref 230] }
noncomputable def o209 : Obj := { cls := .type "code", data := .fields #[.str "Row" 458, .str "Row" 459, .str "/claim/cut.py" 460, .int 113 0, .int 0 0, .int 0 0, .int 0 0, .int 0 0, .ref 207, .bool false, .int 181 0, .ref 208, .none, .none, .none, .none, .int 461 0, .int 113 0, .str "/claim/cut.py" 462] }
noncomputable def o210 : Obj := { cls := .type "frame", slots := #[some (.ref 209), some (.ref 3), some (.ref 206), none, some (.str "drawhouse.rows" 454), none, some (.ref 0)] }
noncomputable def o213 : Obj := tu [.str "self" 471]
noncomputable def o215 : Obj := pf ((Mine.clsBody (Mine.top 29)).getD 0 (.Pass ⟨0, 0, 0, 0⟩)) "binds" "Row.binds"
noncomputable def o220 : Obj := tu [.str "self" 478]
noncomputable def o222 : Obj := pf ((Mine.clsBody (Mine.top 29)).getD 1 (.Pass ⟨0, 0, 0, 0⟩)) "asked" "Row.asked"
noncomputable def o227 : Obj := tu [.str "self" 485]
noncomputable def o229 : Obj := pf ((Mine.clsBody (Mine.top 29)).getD 2 (.Pass ⟨0, 0, 0, 0⟩)) "said" "Row.said"
noncomputable def o237 : Obj := { cls := .type "super", data := .fields #[.ref 234, .ref 234, .ref 234] }
noncomputable def o238 : Obj := { cls := .type "builtin_function_or_method", data := .fields #[.builtin "object.__init_subclass__", .ref 234] }
noncomputable def t3x0 (P : Params) : BT := puts (t2 P) ((3, { cls := .type "dict", data := .dict (List.toArray (n2 P ([]))) 34 }) :: (12, { cls := .none, data := .fields #[.int 2 0, .int 0 0, .ref 20, .int 23 0, .int 0 0, .ref 58, .int 25 0, .int 0 0, .ref 71, .int 27 0, .int 0 0, .ref 83, .int 32 0, .int 0 0, .ref 102, .int 37 0, .int 0 0, .ref 121, .int 46 0, .int 0 0, .ref 138, .int 52 0, .int 0 0, .ref 143, .int 55 0, .int 0 0, .ref 150, .int 62 0, .int 0 0, .ref 155, .int 68 0, .int 0 0, .ref 162, .int 72 0, .int 0 0, .ref 169, .int 78 0, .int 0 0, .ref 176, .int 84 0, .int 0 0, .ref 183, .int 96 0, .int 0 0, .ref 190, .int 103 0, .int 0 0, .ref 197, .int 110 0, .int 0 0, .ref 202, .int 113 0, .int 0 0, .ref 209] }) :: (140, eT) :: (141, eF) :: (142, o142) :: (143, Mine.k143) :: (144, Mine.k144) :: (145, eT) :: (146, eF) :: (147, o147) :: (148, eT) :: (149, o149) :: [])
noncomputable def t3x1 (P : Params) : BT := puts (t3x0 P) ((150, Mine.k150) :: (151, Mine.k151) :: (152, eT) :: (153, eF) :: (154, o154) :: (155, Mine.k155) :: (156, Mine.k156) :: (157, eT) :: (158, eF) :: (159, o159) :: (160, eT) :: (161, o161) :: [])
noncomputable def t3x2 (P : Params) : BT := puts (t3x1 P) ((162, Mine.k162) :: (163, Mine.k163) :: (164, eT) :: (165, eF) :: (166, o166) :: (167, eT) :: (168, o168) :: (169, Mine.k169) :: (170, Mine.k170) :: (171, eT) :: (172, eF) :: (173, o173) :: [])
noncomputable def t3x3 (P : Params) : BT := puts (t3x2 P) ((174, eT) :: (175, o175) :: (176, Mine.k176) :: (177, Mine.k177) :: (178, eT) :: (179, eF) :: (180, o180) :: (181, eT) :: (182, o182) :: (183, Mine.k183) :: (184, Mine.k184) :: (185, eT) :: [])
noncomputable def t3x4 (P : Params) : BT := puts (t3x3 P) ((186, eF) :: (187, o187) :: (188, eT) :: (189, o189) :: (190, Mine.k190) :: (191, Mine.k191) :: (192, eT) :: (193, eF) :: (194, o194) :: (195, eT) :: (196, o196) :: (197, Mine.k197) :: [])
noncomputable def t3x5 (P : Params) : BT := puts (t3x4 P) ((198, Mine.k198) :: (199, eT) :: (200, eF) :: (201, o201) :: (202, Mine.k202) :: (203, Mine.k203) :: (204, eT) :: (205, o205) :: (206, o206 P) :: (207, eT) :: (208, o208) :: (209, o209) :: [])
noncomputable def t3x6 (P : Params) : BT := puts (t3x5 P) ((210, o210) :: (211, eT) :: (212, eF) :: (213, o213) :: (214, eT) :: (215, o215) :: (216, Mine.k216) :: (217, Mine.k217) :: (218, eT) :: (219, eF) :: (220, o220) :: (221, eT) :: [])
noncomputable def t3x7 (P : Params) : BT := puts (t3x6 P) ((222, o222) :: (223, Mine.k223) :: (224, Mine.k224) :: (225, eT) :: (226, eF) :: (227, o227) :: (228, eT) :: (229, o229) :: (230, Mine.k230) :: (231, Mine.k231) :: (232, eT) :: (233, Mine.k233 P) :: [])
noncomputable def t3 (P : Params) : BT := puts (t3x7 P) ((234, { cls := .type "type", data := .cls { name := Str.ofString "Row", bases := [.type "object"], mro := [.ref 234, .type "object"], ns := 233, qualname := Str.ofString "Row" }, slots := #[none, none, some (.str "Row" 456), some (.str "Row" 464), some (.builtin "object.__new__"), some (.bool true)] }) :: (235, Mine.k235) :: (236, Mine.k236) :: (237, o237) :: (238, o238) :: [])
noncomputable def L2 (w : World) (os : OsState) : Option (Flow × SharedT × Code × Pos) := segRunT treeTable PySem.Challenge.pw_drawhouse_k24_parts_told_and_read w 11 (some (Value.ref 6)) 1 628 ⟨t2 w.params, nat_lit 140, { }, Array.mk [], { }, nat_lit 367, os⟩ (piecesOf (sl 13 17) env cE { line := 46, col := 0, endLine := 51, endCol := 51 } fr)
noncomputable def R2 (w : World) (os : OsState) : Option (Flow × SharedT × Code × Pos) := some (.next, ⟨t3 w.params, nat_lit 239, { }, Array.mk [], { }, nat_lit 497, os⟩, cE, { line := 113, col := 0, endLine := 122, endCol := 17 })
theorem rL2 : L2 = L2 := rfl
name_quick L2 for Hd.L2 by Hd.rL2
theorem rR2 : R2 = R2 := rfl
name_quick R2 for Hd.R2 by Hd.rR2
theorem q2 : PySem.W.Fast.L2 = PySem.W.Fast.R2 := by kernel_rfl
theorem e2 : L2 = R2 := PySem.W.Fast.L2_eq.trans (q2.trans PySem.W.Fast.R2_eq.symm)
noncomputable def n3 (P : Params) (r : List DictEntry) : List DictEntry := en P "Let" 537 (.ref 269) :: en P "Deed" 578 (.ref 302) :: r
noncomputable def o239 : Obj := tu [.ref 234]
noncomputable def o240 : Obj := { cls := .type "builtin_function_or_method", data := .fields #[.builtin "type.__prepare__", .type "type"] }
noncomputable def o241 (P : Params) : Obj := { cls := .type "dict", data := .dict #[en P "__module__" 504 (.str "drawhouse.rows" 454), en P "__qualname__" 506 (.str "Let" 505), en P "__firstlineno__" 508 (.int 123 507), en P "__init__" 517 (.ref 252), en P "binds" 524 (.ref 259), en P "said" 531 (.ref 266), en P "__static_attributes__" 534 (.ref 267)] 7 }
noncomputable def o243 : Obj := { cls := .none, data := .fields #[.int 125 0, .int 4 0, .ref 251, .int 129 0, .int 4 0, .ref 258, .int 132 0, .int 4 0, .ref 265] }
noncomputable def o244 : Obj := { cls := .type "code", data := .fields #[.str "Let" 499, .str "Let" 500, .str "/claim/cut.py" 501, .int 123 0, .int 0 0, .int 0 0, .int 0 0, .int 0 0, .ref 242, .bool false, .int 181 0, .ref 243, .none, .none, .none, .none, .int 502 0, .int 123 0, .str "/claim/cut.py" 503] }
noncomputable def o245 : Obj := { cls := .type "frame", slots := #[some (.ref 244), some (.ref 3), some (.ref 241), none, some (.str "drawhouse.rows" 454), none, some (.ref 0)] }
noncomputable def o248 : Obj := tu [.str "self" 512, .str "name" 513, .str "terms" 514]
noncomputable def o250 : Obj := pf ((Mine.clsBody (Mine.top 30)).getD 0 (.Pass ⟨0, 0, 0, 0⟩)) "__init__" "Let.__init__"
noncomputable def o255 : Obj := tu [.str "self" 521]
noncomputable def o257 : Obj := pf ((Mine.clsBody (Mine.top 30)).getD 1 (.Pass ⟨0, 0, 0, 0⟩)) "binds" "Let.binds"
noncomputable def o262 : Obj := tu [.str "self" 528]
noncomputable def o264 : Obj := pf ((Mine.clsBody (Mine.top 30)).getD 2 (.Pass ⟨0, 0, 0, 0⟩)) "said" "Let.said"
noncomputable def o267 : Obj := tu [.str "name" 532, .str "terms" 533]
noncomputable def o270 : Obj := { cls := .type "super", data := .fields #[.ref 269, .ref 269, .ref 269] }
noncomputable def o271 : Obj := { cls := .type "builtin_function_or_method", data := .fields #[.builtin "object.__init_subclass__", .ref 269] }
noncomputable def o272 : Obj := tu [.ref 234]
noncomputable def o273 : Obj := { cls := .type "builtin_function_or_method", data := .fields #[.builtin "type.__prepare__", .type "type"] }
noncomputable def o274 (P : Params) : Obj := { cls := .type "dict", data := .dict #[en P "__module__" 545 (.str "drawhouse.rows" 454), en P "__qualname__" 547 (.str "Deed" 546), en P "__firstlineno__" 549 (.int 134 548), en P "__init__" 558 (.ref 285), en P "binds" 565 (.ref 292), en P "said" 572 (.ref 299), en P "__static_attributes__" 575 (.ref 300)] 7 }
noncomputable def o276 : Obj := { cls := .none, data := .fields #[.int 136 0, .int 4 0, .ref 284, .int 140 0, .int 4 0, .ref 291, .int 143 0, .int 4 0, .ref 298] }
noncomputable def o277 : Obj := { cls := .type "code", data := .fields #[.str "Deed" 540, .str "Deed" 541, .str "/claim/cut.py" 542, .int 134 0, .int 0 0, .int 0 0, .int 0 0, .int 0 0, .ref 275, .bool false, .int 181 0, .ref 276, .none, .none, .none, .none, .int 543 0, .int 134 0, .str "/claim/cut.py" 544] }
noncomputable def o278 : Obj := { cls := .type "frame", slots := #[some (.ref 277), some (.ref 3), some (.ref 274), none, some (.str "drawhouse.rows" 454), none, some (.ref 0)] }
noncomputable def o281 : Obj := tu [.str "self" 553, .str "name" 554, .str "terms" 555]
noncomputable def o283 : Obj := pf ((Mine.clsBody (Mine.top 31)).getD 0 (.Pass ⟨0, 0, 0, 0⟩)) "__init__" "Deed.__init__"
noncomputable def o288 : Obj := tu [.str "self" 562]
noncomputable def o290 : Obj := pf ((Mine.clsBody (Mine.top 31)).getD 1 (.Pass ⟨0, 0, 0, 0⟩)) "binds" "Deed.binds"
noncomputable def o295 : Obj := tu [.str "self" 569]
noncomputable def o297 : Obj := pf ((Mine.clsBody (Mine.top 31)).getD 2 (.Pass ⟨0, 0, 0, 0⟩)) "said" "Deed.said"
noncomputable def o300 : Obj := tu [.str "name" 573, .str "terms" 574]
noncomputable def o303 : Obj := { cls := .type "super", data := .fields #[.ref 302, .ref 302, .ref 302] }
noncomputable def o304 : Obj := { cls := .type "builtin_function_or_method", data := .fields #[.builtin "object.__init_subclass__", .ref 302] }
noncomputable def t4x0 (P : Params) : BT := puts (t3 P) ((3, { cls := .type "dict", data := .dict (List.toArray (n2 P (n3 P ([])))) 36 }) :: (12, { cls := .none, data := .fields #[.int 2 0, .int 0 0, .ref 20, .int 23 0, .int 0 0, .ref 58, .int 25 0, .int 0 0, .ref 71, .int 27 0, .int 0 0, .ref 83, .int 32 0, .int 0 0, .ref 102, .int 37 0, .int 0 0, .ref 121, .int 46 0, .int 0 0, .ref 138, .int 52 0, .int 0 0, .ref 143, .int 55 0, .int 0 0, .ref 150, .int 62 0, .int 0 0, .ref 155, .int 68 0, .int 0 0, .ref 162, .int 72 0, .int 0 0, .ref 169, .int 78 0, .int 0 0, .ref 176, .int 84 0, .int 0 0, .ref 183, .int 96 0, .int 0 0, .ref 190, .int 103 0, .int 0 0, .ref 197, .int 110 0, .int 0 0, .ref 202, .int 113 0, .int 0 0, .ref 209, .int 123 0, .int 0 0, .ref 244, .int 134 0, .int 0 0, .ref 277] }) :: (234, { cls := .type "type", data := .cls { name := Str.ofString "Row", bases := [.type "object"], mro := [.ref 234, .type "object"], ns := 233, qualname := Str.ofString "Row", subclasses := [.ref 269, .ref 302] }, slots := #[none, none, some (.str "Row" 456), some (.str "Row" 464), some (.builtin "object.__new__"), some (.bool true)] }) :: (239, o239) :: (240, o240) :: (241, o241 P) :: (242, eT) :: (243, o243) :: (244, o244) :: (245, o245) :: (246, eT) :: (247, eF) :: [])
noncomputable def t4x1 (P : Params) : BT := puts (t4x0 P) ((248, o248) :: (249, eT) :: (250, o250) :: (251, Mine.k251) :: (252, Mine.k252) :: (253, eT) :: (254, eF) :: (255, o255) :: (256, eT) :: (257, o257) :: (258, Mine.k258) :: (259, Mine.k259) :: [])
noncomputable def t4x2 (P : Params) : BT := puts (t4x1 P) ((260, eT) :: (261, eF) :: (262, o262) :: (263, eT) :: (264, o264) :: (265, Mine.k265) :: (266, Mine.k266) :: (267, o267) :: (268, Mine.k268 P) :: (269, Mine.k269) :: (270, o270) :: (271, o271) :: [])
noncomputable def t4x3 (P : Params) : BT := puts (t4x2 P) ((272, o272) :: (273, o273) :: (274, o274 P) :: (275, eT) :: (276, o276) :: (277, o277) :: (278, o278) :: (279, eT) :: (280, eF) :: (281, o281) :: (282, eT) :: (283, o283) :: [])
noncomputable def t4x4 (P : Params) : BT := puts (t4x3 P) ((284, Mine.k284) :: (285, Mine.k285) :: (286, eT) :: (287, eF) :: (288, o288) :: (289, eT) :: (290, o290) :: (291, Mine.k291) :: (292, Mine.k292) :: (293, eT) :: (294, eF) :: (295, o295) :: [])
noncomputable def t4 (P : Params) : BT := puts (t4x4 P) ((296, eT) :: (297, o297) :: (298, Mine.k298) :: (299, Mine.k299) :: (300, o300) :: (301, Mine.k301 P) :: (302, Mine.k302) :: (303, o303) :: (304, o304) :: [])
noncomputable def L3 (w : World) (os : OsState) : Option (Flow × SharedT × Code × Pos) := segRunT treeTable PySem.Challenge.pw_drawhouse_k24_parts_told_and_read w 11 (some (Value.ref 6)) 1 619 ⟨t3 w.params, nat_lit 239, { }, Array.mk [], { }, nat_lit 497, os⟩ (piecesOf (sl 30 2) env cE { line := 113, col := 0, endLine := 122, endCol := 17 } fr)
noncomputable def R3 (w : World) (os : OsState) : Option (Flow × SharedT × Code × Pos) := some (.next, ⟨t4 w.params, nat_lit 305, { }, Array.mk [], { }, nat_lit 579, os⟩, cE, { line := 134, col := 0, endLine := 144, endCol := 67 })
theorem rL3 : L3 = L3 := rfl
name_quick L3 for Hd.L3 by Hd.rL3
theorem rR3 : R3 = R3 := rfl
name_quick R3 for Hd.R3 by Hd.rR3
theorem q3 : PySem.W.Fast.L3 = PySem.W.Fast.R3 := by kernel_rfl
theorem e3 : L3 = R3 := PySem.W.Fast.L3_eq.trans (q3.trans PySem.W.Fast.R3_eq.symm)
noncomputable def n4 (P : Params) (r : List DictEntry) : List DictEntry := en P "Draw" 626 (.ref 342) :: en P "Late" 674 (.ref 382) :: r
noncomputable def o305 : Obj := tu [.ref 234]
noncomputable def o306 : Obj := { cls := .type "builtin_function_or_method", data := .fields #[.builtin "type.__prepare__", .type "type"] }
noncomputable def o307 (P : Params) : Obj := { cls := .type "dict", data := .dict #[en P "__module__" 586 (.str "drawhouse.rows" 454), en P "__qualname__" 588 (.str "Draw" 587), en P "__firstlineno__" 590 (.int 145 589), en P "__init__" 599 (.ref 318), en P "binds" 606 (.ref 325), en P "asked" 613 (.ref 332), en P "said" 620 (.ref 339), en P "__static_attributes__" 623 (.ref 340)] 8 }
noncomputable def o309 : Obj := { cls := .none, data := .fields #[.int 147 0, .int 4 0, .ref 317, .int 151 0, .int 4 0, .ref 324, .int 154 0, .int 4 0, .ref 331, .int 157 0, .int 4 0, .ref 338] }
noncomputable def o310 : Obj := { cls := .type "code", data := .fields #[.str "Draw" 581, .str "Draw" 582, .str "/claim/cut.py" 583, .int 145 0, .int 0 0, .int 0 0, .int 0 0, .int 0 0, .ref 308, .bool false, .int 181 0, .ref 309, .none, .none, .none, .none, .int 584 0, .int 145 0, .str "/claim/cut.py" 585] }
noncomputable def o311 : Obj := { cls := .type "frame", slots := #[some (.ref 310), some (.ref 3), some (.ref 307), none, some (.str "drawhouse.rows" 454), none, some (.ref 0)] }
noncomputable def o314 : Obj := tu [.str "self" 594, .str "address" 595, .str "name" 596]
noncomputable def o316 : Obj := pf ((Mine.clsBody (Mine.top 32)).getD 0 (.Pass ⟨0, 0, 0, 0⟩)) "__init__" "Draw.__init__"
noncomputable def o321 : Obj := tu [.str "self" 603]
noncomputable def o323 : Obj := pf ((Mine.clsBody (Mine.top 32)).getD 1 (.Pass ⟨0, 0, 0, 0⟩)) "binds" "Draw.binds"
noncomputable def o328 : Obj := tu [.str "self" 610]
noncomputable def o330 : Obj := pf ((Mine.clsBody (Mine.top 32)).getD 2 (.Pass ⟨0, 0, 0, 0⟩)) "asked" "Draw.asked"
noncomputable def o335 : Obj := tu [.str "self" 617]
noncomputable def o337 : Obj := pf ((Mine.clsBody (Mine.top 32)).getD 3 (.Pass ⟨0, 0, 0, 0⟩)) "said" "Draw.said"
noncomputable def o340 : Obj := tu [.str "address" 621, .str "name" 622]
noncomputable def o343 : Obj := { cls := .type "super", data := .fields #[.ref 342, .ref 342, .ref 342] }
noncomputable def o344 : Obj := { cls := .type "builtin_function_or_method", data := .fields #[.builtin "object.__init_subclass__", .ref 342] }
noncomputable def o345 : Obj := tu [.ref 234]
noncomputable def o346 : Obj := { cls := .type "builtin_function_or_method", data := .fields #[.builtin "type.__prepare__", .type "type"] }
noncomputable def o347 (P : Params) : Obj := { cls := .type "dict", data := .dict #[en P "__module__" 634 (.str "drawhouse.rows" 454), en P "__qualname__" 636 (.str "Late" 635), en P "__firstlineno__" 638 (.int 159 637), en P "__init__" 647 (.ref 358), en P "binds" 654 (.ref 365), en P "asked" 661 (.ref 372), en P "said" 668 (.ref 379), en P "__static_attributes__" 671 (.ref 380)] 8 }
noncomputable def o349 : Obj := { cls := .none, data := .fields #[.int 161 0, .int 4 0, .ref 357, .int 165 0, .int 4 0, .ref 364, .int 168 0, .int 4 0, .ref 371, .int 171 0, .int 4 0, .ref 378] }
noncomputable def o350 : Obj := { cls := .type "code", data := .fields #[.str "Late" 629, .str "Late" 630, .str "/claim/cut.py" 631, .int 159 0, .int 0 0, .int 0 0, .int 0 0, .int 0 0, .ref 348, .bool false, .int 181 0, .ref 349, .none, .none, .none, .none, .int 632 0, .int 159 0, .str "/claim/cut.py" 633] }
noncomputable def o351 : Obj := { cls := .type "frame", slots := #[some (.ref 350), some (.ref 3), some (.ref 347), none, some (.str "drawhouse.rows" 454), none, some (.ref 0)] }
noncomputable def o354 : Obj := tu [.str "self" 642, .str "address" 643, .str "name" 644]
noncomputable def o356 : Obj := pf ((Mine.clsBody (Mine.top 33)).getD 0 (.Pass ⟨0, 0, 0, 0⟩)) "__init__" "Late.__init__"
noncomputable def o361 : Obj := tu [.str "self" 651]
noncomputable def o363 : Obj := pf ((Mine.clsBody (Mine.top 33)).getD 1 (.Pass ⟨0, 0, 0, 0⟩)) "binds" "Late.binds"
noncomputable def o368 : Obj := tu [.str "self" 658]
noncomputable def o370 : Obj := pf ((Mine.clsBody (Mine.top 33)).getD 2 (.Pass ⟨0, 0, 0, 0⟩)) "asked" "Late.asked"
noncomputable def o375 : Obj := tu [.str "self" 665]
noncomputable def o377 : Obj := pf ((Mine.clsBody (Mine.top 33)).getD 3 (.Pass ⟨0, 0, 0, 0⟩)) "said" "Late.said"
noncomputable def o380 : Obj := tu [.str "address" 669, .str "name" 670]
noncomputable def o383 : Obj := { cls := .type "super", data := .fields #[.ref 382, .ref 382, .ref 382] }
noncomputable def o384 : Obj := { cls := .type "builtin_function_or_method", data := .fields #[.builtin "object.__init_subclass__", .ref 382] }
noncomputable def t5x0 (P : Params) : BT := puts (t4 P) ((3, { cls := .type "dict", data := .dict (List.toArray (n2 P (n3 P (n4 P ([]))))) 38 }) :: (12, { cls := .none, data := .fields #[.int 2 0, .int 0 0, .ref 20, .int 23 0, .int 0 0, .ref 58, .int 25 0, .int 0 0, .ref 71, .int 27 0, .int 0 0, .ref 83, .int 32 0, .int 0 0, .ref 102, .int 37 0, .int 0 0, .ref 121, .int 46 0, .int 0 0, .ref 138, .int 52 0, .int 0 0, .ref 143, .int 55 0, .int 0 0, .ref 150, .int 62 0, .int 0 0, .ref 155, .int 68 0, .int 0 0, .ref 162, .int 72 0, .int 0 0, .ref 169, .int 78 0, .int 0 0, .ref 176, .int 84 0, .int 0 0, .ref 183, .int 96 0, .int 0 0, .ref 190, .int 103 0, .int 0 0, .ref 197, .int 110 0, .int 0 0, .ref 202, .int 113 0, .int 0 0, .ref 209, .int 123 0, .int 0 0, .ref 244, .int 134 0, .int 0 0, .ref 277, .int 145 0, .int 0 0, .ref 310, .int 159 0, .int 0 0, .ref 350] }) :: (234, { cls := .type "type", data := .cls { name := Str.ofString "Row", bases := [.type "object"], mro := [.ref 234, .type "object"], ns := 233, qualname := Str.ofString "Row", subclasses := [.ref 269, .ref 302, .ref 342, .ref 382] }, slots := #[none, none, some (.str "Row" 456), some (.str "Row" 464), some (.builtin "object.__new__"), some (.bool true)] }) :: (305, o305) :: (306, o306) :: (307, o307 P) :: (308, eT) :: (309, o309) :: (310, o310) :: (311, o311) :: (312, eT) :: (313, eF) :: [])
noncomputable def t5x1 (P : Params) : BT := puts (t5x0 P) ((314, o314) :: (315, eT) :: (316, o316) :: (317, Mine.k317) :: (318, Mine.k318) :: (319, eT) :: (320, eF) :: (321, o321) :: (322, eT) :: (323, o323) :: (324, Mine.k324) :: (325, Mine.k325) :: [])
noncomputable def t5x2 (P : Params) : BT := puts (t5x1 P) ((326, eT) :: (327, eF) :: (328, o328) :: (329, eT) :: (330, o330) :: (331, Mine.k331) :: (332, Mine.k332) :: (333, eT) :: (334, eF) :: (335, o335) :: (336, eT) :: (337, o337) :: [])
noncomputable def t5x3 (P : Params) : BT := puts (t5x2 P) ((338, Mine.k338) :: (339, Mine.k339) :: (340, o340) :: (341, Mine.k341 P) :: (342, Mine.k342) :: (343, o343) :: (344, o344) :: (345, o345) :: (346, o346) :: (347, o347 P) :: (348, eT) :: (349, o349) :: [])
noncomputable def t5x4 (P : Params) : BT := puts (t5x3 P) ((350, o350) :: (351, o351) :: (352, eT) :: (353, eF) :: (354, o354) :: (355, eT) :: (356, o356) :: (357, Mine.k357) :: (358, Mine.k358) :: (359, eT) :: (360, eF) :: (361, o361) :: [])
noncomputable def t5x5 (P : Params) : BT := puts (t5x4 P) ((362, eT) :: (363, o363) :: (364, Mine.k364) :: (365, Mine.k365) :: (366, eT) :: (367, eF) :: (368, o368) :: (369, eT) :: (370, o370) :: (371, Mine.k371) :: (372, Mine.k372) :: (373, eT) :: [])
noncomputable def t5 (P : Params) : BT := puts (t5x5 P) ((374, eF) :: (375, o375) :: (376, eT) :: (377, o377) :: (378, Mine.k378) :: (379, Mine.k379) :: (380, o380) :: (381, Mine.k381 P) :: (382, Mine.k382) :: (383, o383) :: (384, o384) :: [])
noncomputable def L4 (w : World) (os : OsState) : Option (Flow × SharedT × Code × Pos) := segRunT treeTable PySem.Challenge.pw_drawhouse_k24_parts_told_and_read w 11 (some (Value.ref 6)) 1 681 ⟨t4 w.params, nat_lit 305, { }, Array.mk [], { }, nat_lit 579, os⟩ (piecesOf (sl 32 2) env cE { line := 134, col := 0, endLine := 144, endCol := 67 } fr)
noncomputable def R4 (w : World) (os : OsState) : Option (Flow × SharedT × Code × Pos) := some (.next, ⟨t5 w.params, nat_lit 385, { }, Array.mk [], { }, nat_lit 675, os⟩, cE, { line := 159, col := 0, endLine := 172, endCol := 58 })
theorem rL4 : L4 = L4 := rfl
name_quick L4 for Hd.L4 by Hd.rL4
theorem rR4 : R4 = R4 := rfl
name_quick R4 for Hd.R4 by Hd.rR4
theorem q4 : PySem.W.Fast.L4 = PySem.W.Fast.R4 := by kernel_rfl
theorem e4 : L4 = R4 := PySem.W.Fast.L4_eq.trans (q4.trans PySem.W.Fast.R4_eq.symm)
noncomputable def n5 (P : Params) (r : List DictEntry) : List DictEntry := en P "__name__" 165 (.str "drawhouse.reader" 757) :: en P "__doc__" 166 .none :: en P "__package__" 167 .none :: en P "__loader__" 168 (.builtin "__main__.__loader__#opaque") :: en P "__spec__" 169 .none :: en P "__annotations__" 170 (.ref 6) :: en P "__builtins__" 171 (.ref 4) :: en P "__file__" 173 (.str "/claim/cut.py" 172) :: en P "__cached__" 174 .none :: en P "Part" 241 (.ref 48) :: en P "HouseError" 261 (.ref 62) :: en P "NoExpr" 277 (.ref 75) :: en P "NoText" 302 (.ref 94) :: en P "TooMany" 327 (.ref 113) :: en P "Twice" 352 (.ref 132) :: en P "LETTERS" 356 (.str "abcdefghijklmnopqrstuvwxyz" 355) :: en P "MOST_LETTERS" 358 (.int 8 357) :: en P "MOST_NAMES" 360 (.int 3 359) :: en P "is_name" 366 (.ref 139) :: en P "are_names" 372 (.ref 144) :: en P "is_address" 379 (.ref 151) :: en P "FIGURES" 383 (.str "0123456789" 382) :: en P "MOST_FIGURES" 385 (.int 20 384) :: en P "MOST_TERMS" 387 (.int 6 386) :: en P "MOST_STEPS" 389 (.int 4 388) :: en P "is_number" 395 (.ref 156) :: en P "read_path" 402 (.ref 163) :: en P "read_term" 410 (.ref 170) :: en P "read_sign" 417 (.ref 177) :: en P "read_expr" 427 (.ref 184) :: en P "show_term" 436 (.ref 191) :: en P "show_expr" 447 (.ref 198) :: en P "has_call" 453 (.ref 203) :: en P "Row" 496 (.ref 234) :: r
noncomputable def n6 (P : Params) (r : List DictEntry) : List DictEntry := en P "Take" 724 (.ref 422) :: en P "Need" 756 (.ref 448) :: en P "MOST_ROWS" 760 (.int 12 759) :: en P "names_expr" 767 (.ref 457) :: en P "names_address" 774 (.ref 464) :: en P "names_word" 781 (.ref 471) :: en P "terms_from" 789 (.ref 478) :: en P "deed_of" 797 (.ref 485) :: r
noncomputable def o385 : Obj := tu [.ref 234]
noncomputable def o386 : Obj := { cls := .type "builtin_function_or_method", data := .fields #[.builtin "type.__prepare__", .type "type"] }
noncomputable def o387 (P : Params) : Obj := { cls := .type "dict", data := .dict #[en P "__module__" 682 (.str "drawhouse.rows" 454), en P "__qualname__" 684 (.str "Take" 683), en P "__firstlineno__" 686 (.int 173 685), en P "__init__" 696 (.ref 398), en P "binds" 703 (.ref 405), en P "asked" 710 (.ref 412), en P "said" 717 (.ref 419), en P "__static_attributes__" 721 (.ref 420)] 8 }
noncomputable def o389 : Obj := { cls := .none, data := .fields #[.int 175 0, .int 4 0, .ref 397, .int 180 0, .int 4 0, .ref 404, .int 183 0, .int 4 0, .ref 411, .int 186 0, .int 4 0, .ref 418] }
noncomputable def o390 : Obj := { cls := .type "code", data := .fields #[.str "Take" 677, .str "Take" 678, .str "/claim/cut.py" 679, .int 173 0, .int 0 0, .int 0 0, .int 0 0, .int 0 0, .ref 388, .bool false, .int 181 0, .ref 389, .none, .none, .none, .none, .int 680 0, .int 173 0, .str "/claim/cut.py" 681] }
noncomputable def o391 : Obj := { cls := .type "frame", slots := #[some (.ref 390), some (.ref 3), some (.ref 387), none, some (.str "drawhouse.rows" 454), none, some (.ref 0)] }
noncomputable def o394 : Obj := tu [.str "self" 690, .str "word" 691, .str "address" 692, .str "name" 693]
noncomputable def o396 : Obj := pf ((Mine.clsBody (Mine.top 34)).getD 0 (.Pass ⟨0, 0, 0, 0⟩)) "__init__" "Take.__init__"
noncomputable def o401 : Obj := tu [.str "self" 700]
noncomputable def o403 : Obj := pf ((Mine.clsBody (Mine.top 34)).getD 1 (.Pass ⟨0, 0, 0, 0⟩)) "binds" "Take.binds"
noncomputable def o408 : Obj := tu [.str "self" 707]
noncomputable def o410 : Obj := pf ((Mine.clsBody (Mine.top 34)).getD 2 (.Pass ⟨0, 0, 0, 0⟩)) "asked" "Take.asked"
noncomputable def o415 : Obj := tu [.str "self" 714]
noncomputable def o417 : Obj := pf ((Mine.clsBody (Mine.top 34)).getD 3 (.Pass ⟨0, 0, 0, 0⟩)) "said" "Take.said"
noncomputable def o420 : Obj := tu [.str "address" 718, .str "name" 719, .str "word" 720]
noncomputable def o423 : Obj := { cls := .type "super", data := .fields #[.ref 422, .ref 422, .ref 422] }
noncomputable def o424 : Obj := { cls := .type "builtin_function_or_method", data := .fields #[.builtin "object.__init_subclass__", .ref 422] }
noncomputable def o425 : Obj := tu [.ref 234]
noncomputable def o426 : Obj := { cls := .type "builtin_function_or_method", data := .fields #[.builtin "type.__prepare__", .type "type"] }
noncomputable def o427 (P : Params) : Obj := { cls := .type "dict", data := .dict #[en P "__module__" 732 (.str "drawhouse.rows" 454), en P "__qualname__" 734 (.str "Need" 733), en P "__firstlineno__" 736 (.int 188 735), en P "__init__" 744 (.ref 438), en P "said" 751 (.ref 445), en P "__static_attributes__" 753 (.ref 446)] 6 }
noncomputable def o429 : Obj := { cls := .none, data := .fields #[.int 190 0, .int 4 0, .ref 437, .int 193 0, .int 4 0, .ref 444] }
noncomputable def o430 : Obj := { cls := .type "code", data := .fields #[.str "Need" 727, .str "Need" 728, .str "/claim/cut.py" 729, .int 188 0, .int 0 0, .int 0 0, .int 0 0, .int 0 0, .ref 428, .bool false, .int 181 0, .ref 429, .none, .none, .none, .none, .int 730 0, .int 188 0, .str "/claim/cut.py" 731] }
noncomputable def o431 : Obj := { cls := .type "frame", slots := #[some (.ref 430), some (.ref 3), some (.ref 427), none, some (.str "drawhouse.rows" 454), none, some (.ref 0)] }
noncomputable def o434 : Obj := tu [.str "self" 740, .str "terms" 741]
noncomputable def o436 : Obj := pf ((Mine.clsBody (Mine.top 35)).getD 0 (.Pass ⟨0, 0, 0, 0⟩)) "__init__" "Need.__init__"
noncomputable def o441 : Obj := tu [.str "self" 748]
noncomputable def o443 : Obj := pf ((Mine.clsBody (Mine.top 35)).getD 1 (.Pass ⟨0, 0, 0, 0⟩)) "said" "Need.said"
noncomputable def o446 : Obj := tu [.str "terms" 752]
noncomputable def o449 : Obj := { cls := .type "super", data := .fields #[.ref 448, .ref 448, .ref 448] }
noncomputable def o450 : Obj := { cls := .type "builtin_function_or_method", data := .fields #[.builtin "object.__init_subclass__", .ref 448] }
noncomputable def o453 : Obj := tu [.str "words" 764]
noncomputable def o455 : Obj := pf (Mine.top 38) "names_expr" "names_expr"
noncomputable def o460 : Obj := tu [.str "words" 771]
noncomputable def o462 : Obj := pf (Mine.top 39) "names_address" "names_address"
noncomputable def o467 : Obj := tu [.str "words" 778]
noncomputable def o469 : Obj := pf (Mine.top 40) "names_word" "names_word"
noncomputable def o474 : Obj := tu [.str "words" 785, .str "at" 786]
noncomputable def o476 : Obj := pf (Mine.top 41) "terms_from" "terms_from"
noncomputable def o481 : Obj := tu [.str "name" 793, .str "terms" 794]
noncomputable def o483 : Obj := pf (Mine.top 42) "deed_of" "deed_of"
noncomputable def t6x0 (P : Params) : BT := puts (t5 P) ((3, { cls := .type "dict", data := .dict (List.toArray (n5 P (n3 P (n4 P (n6 P ([])))))) 46 }) :: (12, { cls := .none, data := .fields #[.int 2 0, .int 0 0, .ref 20, .int 23 0, .int 0 0, .ref 58, .int 25 0, .int 0 0, .ref 71, .int 27 0, .int 0 0, .ref 83, .int 32 0, .int 0 0, .ref 102, .int 37 0, .int 0 0, .ref 121, .int 46 0, .int 0 0, .ref 138, .int 52 0, .int 0 0, .ref 143, .int 55 0, .int 0 0, .ref 150, .int 62 0, .int 0 0, .ref 155, .int 68 0, .int 0 0, .ref 162, .int 72 0, .int 0 0, .ref 169, .int 78 0, .int 0 0, .ref 176, .int 84 0, .int 0 0, .ref 183, .int 96 0, .int 0 0, .ref 190, .int 103 0, .int 0 0, .ref 197, .int 110 0, .int 0 0, .ref 202, .int 113 0, .int 0 0, .ref 209, .int 123 0, .int 0 0, .ref 244, .int 134 0, .int 0 0, .ref 277, .int 145 0, .int 0 0, .ref 310, .int 159 0, .int 0 0, .ref 350, .int 173 0, .int 0 0, .ref 390, .int 188 0, .int 0 0, .ref 430, .int 197 0, .int 0 0, .ref 456, .int 199 0, .int 0 0, .ref 463, .int 201 0, .int 0 0, .ref 470, .int 205 0, .int 0 0, .ref 477, .int 207 0, .int 0 0, .ref 484] }) :: (234, Mine.k234) :: (385, o385) :: (386, o386) :: (387, o387 P) :: (388, eT) :: (389, o389) :: (390, o390) :: (391, o391) :: (392, eT) :: (393, eF) :: [])
noncomputable def t6x1 (P : Params) : BT := puts (t6x0 P) ((394, o394) :: (395, eT) :: (396, o396) :: (397, Mine.k397) :: (398, Mine.k398) :: (399, eT) :: (400, eF) :: (401, o401) :: (402, eT) :: (403, o403) :: (404, Mine.k404) :: (405, Mine.k405) :: [])
noncomputable def t6x2 (P : Params) : BT := puts (t6x1 P) ((406, eT) :: (407, eF) :: (408, o408) :: (409, eT) :: (410, o410) :: (411, Mine.k411) :: (412, Mine.k412) :: (413, eT) :: (414, eF) :: (415, o415) :: (416, eT) :: (417, o417) :: [])
noncomputable def t6x3 (P : Params) : BT := puts (t6x2 P) ((418, Mine.k418) :: (419, Mine.k419) :: (420, o420) :: (421, Mine.k421 P) :: (422, Mine.k422) :: (423, o423) :: (424, o424) :: (425, o425) :: (426, o426) :: (427, o427 P) :: (428, eT) :: (429, o429) :: [])
noncomputable def t6x4 (P : Params) : BT := puts (t6x3 P) ((430, o430) :: (431, o431) :: (432, eT) :: (433, eF) :: (434, o434) :: (435, eT) :: (436, o436) :: (437, Mine.k437) :: (438, Mine.k438) :: (439, eT) :: (440, eF) :: (441, o441) :: [])
noncomputable def t6x5 (P : Params) : BT := puts (t6x4 P) ((442, eT) :: (443, o443) :: (444, Mine.k444) :: (445, Mine.k445) :: (446, o446) :: (447, Mine.k447 P) :: (448, Mine.k448) :: (449, o449) :: (450, o450) :: (451, eT) :: (452, eF) :: (453, o453) :: [])
noncomputable def t6x6 (P : Params) : BT := puts (t6x5 P) ((454, eT) :: (455, o455) :: (456, Mine.k456) :: (457, Mine.k457) :: (458, eT) :: (459, eF) :: (460, o460) :: (461, eT) :: (462, o462) :: (463, Mine.k463) :: (464, Mine.k464) :: (465, eT) :: [])
noncomputable def t6x7 (P : Params) : BT := puts (t6x6 P) ((466, eF) :: (467, o467) :: (468, eT) :: (469, o469) :: (470, Mine.k470) :: (471, Mine.k471) :: (472, eT) :: (473, eF) :: (474, o474) :: (475, eT) :: (476, o476) :: (477, Mine.k477) :: [])
noncomputable def t6 (P : Params) : BT := puts (t6x7 P) ((478, Mine.k478) :: (479, eT) :: (480, eF) :: (481, o481) :: (482, eT) :: (483, o483) :: (484, Mine.k484) :: (485, Mine.k485) :: [])
noncomputable def L5 (w : World) (os : OsState) : Option (Flow × SharedT × Code × Pos) := segRunT treeTable PySem.Challenge.pw_drawhouse_k24_parts_told_and_read w 11 (some (Value.ref 6)) 1 784 ⟨t5 w.params, nat_lit 385, { }, Array.mk [], { }, nat_lit 675, os⟩ (piecesOf (sl 34 9) env cE { line := 159, col := 0, endLine := 172, endCol := 58 } fr)
noncomputable def R5 (w : World) (os : OsState) : Option (Flow × SharedT × Code × Pos) := some (.next, ⟨t6 w.params, nat_lit 486, { }, Array.mk [], { }, nat_lit 798, os⟩, cE, { line := 207, col := 0, endLine := 210, endCol := 28 })
theorem rL5 : L5 = L5 := rfl
name_quick L5 for Hd.L5 by Hd.rL5
theorem rR5 : R5 = R5 := rfl
name_quick R5 for Hd.R5 by Hd.rR5
theorem q5 : PySem.W.Fast.L5 = PySem.W.Fast.R5 := by kernel_rfl
theorem e5 : L5 = R5 := PySem.W.Fast.L5_eq.trans (q5.trans PySem.W.Fast.R5_eq.symm)
noncomputable def n7 (P : Params) (r : List DictEntry) : List DictEntry := en P "__name__" 165 (.str "law_drawhouse_k24_parts_told_and_read" 836) :: en P "__doc__" 166 .none :: en P "__package__" 167 .none :: en P "__loader__" 168 (.builtin "__main__.__loader__#opaque") :: en P "__spec__" 169 .none :: en P "__annotations__" 170 (.ref 6) :: en P "__builtins__" 171 (.ref 4) :: en P "__file__" 173 (.str "/claim/cut.py" 172) :: en P "__cached__" 174 .none :: en P "Part" 241 (.ref 48) :: en P "HouseError" 261 (.ref 62) :: en P "NoExpr" 277 (.ref 75) :: en P "NoText" 302 (.ref 94) :: en P "TooMany" 327 (.ref 113) :: en P "Twice" 352 (.ref 132) :: en P "LETTERS" 356 (.str "abcdefghijklmnopqrstuvwxyz" 355) :: en P "MOST_LETTERS" 358 (.int 8 357) :: en P "MOST_NAMES" 360 (.int 3 359) :: en P "is_name" 366 (.ref 139) :: en P "are_names" 372 (.ref 144) :: en P "is_address" 379 (.ref 151) :: en P "FIGURES" 383 (.str "0123456789" 382) :: en P "MOST_FIGURES" 385 (.int 20 384) :: en P "MOST_TERMS" 387 (.int 6 386) :: en P "MOST_STEPS" 389 (.int 4 388) :: en P "is_number" 395 (.ref 156) :: en P "read_path" 402 (.ref 163) :: en P "read_term" 410 (.ref 170) :: en P "read_sign" 417 (.ref 177) :: en P "read_expr" 427 (.ref 184) :: en P "show_term" 436 (.ref 191) :: en P "show_expr" 447 (.ref 198) :: en P "has_call" 453 (.ref 203) :: en P "Row" 496 (.ref 234) :: r
noncomputable def n8 (P : Params) (r : List DictEntry) : List DictEntry := en P "row_of" 805 (.ref 492) :: en P "row_at" 814 (.ref 499) :: en P "read_head" 822 (.ref 506) :: en P "read_part" 835 (.ref 513) :: en P "_law_cell" 845 (.ref 520) :: en P "_law_sub" 853 (.ref 527) :: en P "_law_number" 861 (.ref 534) :: en P "_law_pick" 873 (.ref 541) :: en P "_law_names" 879 (.ref 546) :: en P "_law_name" 885 (.ref 551) :: en P "_law_label" 893 (.ref 558) :: en P "_law_address" 899 (.ref 563) :: en P "_law_term" 905 (.ref 568) :: en P "_law_terms" 911 (.ref 573) :: en P "_law_word" 921 (.ref 580) :: en P "_law_text" 930 (.ref 587) :: en P "_law_row" 936 (.ref 592) :: en P "_law_said" 948 (.ref 599) :: en P "_law_whole" 955 (.ref 606) :: en P "_law_term_is" 963 (.ref 613) :: en P "_law_terms_are" 969 (.ref 618) :: en P "_law_is" 975 (.ref 623) :: en P "_law_says" 987 (.ref 630) :: en P "_law_made" 1000 (.ref 637) :: en P "_law_strange" 1006 (.ref 642) :: en P "_law_holds" 1012 (.ref 647) :: en P "law" 1018 (.ref 652) :: r
noncomputable def o3 (P : Params) : Obj := { cls := .type "dict", data := .dict (List.toArray (n7 P (n3 P (n4 P (n6 P (n8 P ([]))))))) 73 }
noncomputable def o12 : Obj := { cls := .none, data := .fields #[.int 2 0, .int 0 0, .ref 20, .int 23 0, .int 0 0, .ref 58, .int 25 0, .int 0 0, .ref 71, .int 27 0, .int 0 0, .ref 83, .int 32 0, .int 0 0, .ref 102, .int 37 0, .int 0 0, .ref 121, .int 46 0, .int 0 0, .ref 138, .int 52 0, .int 0 0, .ref 143, .int 55 0, .int 0 0, .ref 150, .int 62 0, .int 0 0, .ref 155, .int 68 0, .int 0 0, .ref 162, .int 72 0, .int 0 0, .ref 169, .int 78 0, .int 0 0, .ref 176, .int 84 0, .int 0 0, .ref 183, .int 96 0, .int 0 0, .ref 190, .int 103 0, .int 0 0, .ref 197, .int 110 0, .int 0 0, .ref 202, .int 113 0, .int 0 0, .ref 209, .int 123 0, .int 0 0, .ref 244, .int 134 0, .int 0 0, .ref 277, .int 145 0, .int 0 0, .ref 310, .int 159 0, .int 0 0, .ref 350, .int 173 0, .int 0 0, .ref 390, .int 188 0, .int 0 0, .ref 430, .int 197 0, .int 0 0, .ref 456, .int 199 0, .int 0 0, .ref 463, .int 201 0, .int 0 0, .ref 470, .int 205 0, .int 0 0, .ref 477, .int 207 0, .int 0 0, .ref 484, .int 211 0, .int 0 0, .ref 491, .int 226 0, .int 0 0, .ref 498, .int 234 0, .int 0 0, .ref 505, .int 239 0, .int 0 0, .ref 512, .int 254 0, .int 0 0, .ref 519, .int 258 0, .int 0 0, .ref 526, .int 262 0, .int 0 0, .ref 533, .int 266 0, .int 0 0, .ref 540, .int 275 0, .int 0 0, .ref 545, .int 291 0, .int 0 0, .ref 550, .int 294 0, .int 0 0, .ref 557, .int 299 0, .int 0 0, .ref 562, .int 301 0, .int 0 0, .ref 567, .int 309 0, .int 0 0, .ref 572, .int 311 0, .int 0 0, .ref 579, .int 316 0, .int 0 0, .ref 586, .int 321 0, .int 0 0, .ref 591, .int 329 0, .int 0 0, .ref 598, .int 338 0, .int 0 0, .ref 605, .int 340 0, .int 0 0, .ref 612, .int 346 0, .int 0 0, .ref 617, .int 350 0, .int 0 0, .ref 622, .int 364 0, .int 0 0, .ref 629, .int 373 0, .int 0 0, .ref 636, .int 386 0, .int 0 0, .ref 641, .int 389 0, .int 0 0, .ref 646, .int 406 0, .int 0 0, .ref 651] }
noncomputable def o488 : Obj := tu [.str "words" 801, .str "first" 802]
noncomputable def o490 : Obj := pf (Mine.top 43) "row_of" "row_of"
noncomputable def o495 : Obj := tu [.str "text" 809, .str "at" 810, .str "row" 811]
noncomputable def o497 : Obj := pf (Mine.top 44) "row_at" "row_at"
noncomputable def o502 : Obj := tu [.str "text" 818, .str "words" 819]
noncomputable def o504 : Obj := pf (Mine.top 45) "read_head" "read_head"
noncomputable def o509 : Obj := tu [.str "text" 826, .str "lines" 827, .str "address" 828, .str "rows" 829, .str "at" 830, .str "line" 831, .str "row" 832]
noncomputable def o511 : Obj := pf (Mine.top 46) "read_part" "read_part"
noncomputable def o516 : Obj := tu [.str "_law_script" 841, .str "_law_k" 842]
noncomputable def o518 : Obj := pf (Mine.top 48) "_law_cell" "_law_cell"
noncomputable def o523 : Obj := tu [.str "_law_cell_here" 849, .str "_law_j" 850]
noncomputable def o525 : Obj := pf (Mine.top 49) "_law_sub" "_law_sub"
noncomputable def o530 : Obj := tu [.str "_law_cell_here" 857, .str "_law_far" 858]
noncomputable def o532 : Obj := pf (Mine.top 50) "_law_number" "_law_number"
noncomputable def o537 : Obj := tu [.str "_law_cell_here" 865, .str "_law_k" 866, .str "_law_many" 867, .str "_law_great" 868, .str "_law_by" 869, .str "_law_one" 870]
noncomputable def o539 : Obj := pf (Mine.top 51) "_law_pick" "_law_pick"
noncomputable def o544 : Obj := pf (Mine.top 52) "_law_names" "_law_names"
noncomputable def o549 : Obj := pf (Mine.top 53) "_law_name" "_law_name"
noncomputable def o554 : Obj := tu [.str "_law_cell_here" 889, .str "_law_some" 890]
noncomputable def o556 : Obj := pf (Mine.top 54) "_law_label" "_law_label"
noncomputable def o561 : Obj := pf (Mine.top 55) "_law_address" "_law_address"
noncomputable def o566 : Obj := pf (Mine.top 56) "_law_term" "_law_term"
noncomputable def o571 : Obj := pf (Mine.top 57) "_law_terms" "_law_terms"
noncomputable def o576 : Obj := tu [.str "_law_term_here" 915, .str "_law_sign" 916, .str "_law_sort" 917, .str "_law_thing" 918]
noncomputable def o578 : Obj := pf (Mine.top 58) "_law_word" "_law_word"
noncomputable def o583 : Obj := tu [.str "_law_terms_here" 925, .str "_law_text_here" 926, .str "_law_term_here" 927]
noncomputable def o585 : Obj := pf (Mine.top 59) "_law_text" "_law_text"
noncomputable def o590 : Obj := pf (Mine.top 60) "_law_row" "_law_row"
noncomputable def o595 : Obj := tu [.str "_law_row_here" 940, .str "_law_sort" 941, .str "_law_name_here" 942, .str "_law_address_here" 943, .str "_law_word_here" 944, .str "_law_terms_here" 945]
noncomputable def o597 : Obj := pf (Mine.top 61) "_law_said" "_law_said"
noncomputable def o602 : Obj := tu [.str "_law_found" 952]
noncomputable def o604 : Obj := pf (Mine.top 62) "_law_whole" "_law_whole"
noncomputable def o609 : Obj := tu [.str "_law_found" 959, .str "_law_due" 960]
noncomputable def o611 : Obj := pf (Mine.top 63) "_law_term_is" "_law_term_is"
noncomputable def o616 : Obj := pf (Mine.top 64) "_law_terms_are" "_law_terms_are"
noncomputable def o621 : Obj := pf (Mine.top 65) "_law_is" "_law_is"
noncomputable def o626 : Obj := tu [.str "_law_found" 979, .str "_law_row_here" 980, .str "_law_due" 981, .str "_law_binds" 982, .str "_law_asked" 983, .str "_law_said_here" 984]
noncomputable def o628 : Obj := pf (Mine.top 66) "_law_says" "_law_says"
noncomputable def o633 : Obj := tu [.str "_law_row_here" 991, .str "_law_terms_here" 992, .str "_law_sort" 993, .str "_law_name_here" 994, .str "_law_address_here" 995, .str "_law_word_here" 996, .str "_law_due" 997]
noncomputable def o635 : Obj := pf (Mine.top 67) "_law_made" "_law_made"
noncomputable def o640 : Obj := pf (Mine.top 68) "_law_strange" "_law_strange"
noncomputable def o645 : Obj := pf (Mine.top 69) "_law_holds" "_law_holds"
noncomputable def o650 : Obj := pf (Mine.top 70) "law" "law"
noncomputable def t7x0 (P : Params) : BT := puts (t6 P) ((3, o3 P) :: (12, o12) :: (486, eT) :: (487, eF) :: (488, o488) :: (489, eT) :: (490, o490) :: (491, Mine.k491) :: (492, Mine.k492) :: (493, eT) :: (494, eF) :: (495, o495) :: [])
noncomputable def t7x1 (P : Params) : BT := puts (t7x0 P) ((496, eT) :: (497, o497) :: (498, Mine.k498) :: (499, Mine.k499) :: (500, eT) :: (501, eF) :: (502, o502) :: (503, eT) :: (504, o504) :: (505, Mine.k505) :: (506, Mine.k506) :: (507, eT) :: [])
noncomputable def t7x2 (P : Params) : BT := puts (t7x1 P) ((508, eF) :: (509, o509) :: (510, eT) :: (511, o511) :: (512, Mine.k512) :: (513, Mine.k513) :: (514, eT) :: (515, eF) :: (516, o516) :: (517, eT) :: (518, o518) :: (519, Mine.k519) :: [])
noncomputable def t7x3 (P : Params) : BT := puts (t7x2 P) ((520, Mine.k520) :: (521, eT) :: (522, eF) :: (523, o523) :: (524, eT) :: (525, o525) :: (526, Mine.k526) :: (527, Mine.k527) :: (528, eT) :: (529, eF) :: (530, o530) :: (531, eT) :: [])
noncomputable def t7x4 (P : Params) : BT := puts (t7x3 P) ((532, o532) :: (533, Mine.k533) :: (534, Mine.k534) :: (535, eT) :: (536, eF) :: (537, o537) :: (538, eT) :: (539, o539) :: (540, Mine.k540) :: (541, Mine.k541) :: (542, eT) :: (543, eF) :: [])
noncomputable def t7x5 (P : Params) : BT := puts (t7x4 P) ((544, o544) :: (545, Mine.k545) :: (546, Mine.k546) :: (547, eT) :: (548, eF) :: (549, o549) :: (550, Mine.k550) :: (551, Mine.k551) :: (552, eT) :: (553, eF) :: (554, o554) :: (555, eT) :: [])
noncomputable def t7x6 (P : Params) : BT := puts (t7x5 P) ((556, o556) :: (557, Mine.k557) :: (558, Mine.k558) :: (559, eT) :: (560, eF) :: (561, o561) :: (562, Mine.k562) :: (563, Mine.k563) :: (564, eT) :: (565, eF) :: (566, o566) :: (567, Mine.k567) :: [])
noncomputable def t7x7 (P : Params) : BT := puts (t7x6 P) ((568, Mine.k568) :: (569, eT) :: (570, eF) :: (571, o571) :: (572, Mine.k572) :: (573, Mine.k573) :: (574, eT) :: (575, eF) :: (576, o576) :: (577, eT) :: (578, o578) :: (579, Mine.k579) :: [])
noncomputable def t7x8 (P : Params) : BT := puts (t7x7 P) ((580, Mine.k580) :: (581, eT) :: (582, eF) :: (583, o583) :: (584, eT) :: (585, o585) :: (586, Mine.k586) :: (587, Mine.k587) :: (588, eT) :: (589, eF) :: (590, o590) :: (591, Mine.k591) :: [])
noncomputable def t7x9 (P : Params) : BT := puts (t7x8 P) ((592, Mine.k592) :: (593, eT) :: (594, eF) :: (595, o595) :: (596, eT) :: (597, o597) :: (598, Mine.k598) :: (599, Mine.k599) :: (600, eT) :: (601, eF) :: (602, o602) :: (603, eT) :: [])
noncomputable def t7x10 (P : Params) : BT := puts (t7x9 P) ((604, o604) :: (605, Mine.k605) :: (606, Mine.k606) :: (607, eT) :: (608, eF) :: (609, o609) :: (610, eT) :: (611, o611) :: (612, Mine.k612) :: (613, Mine.k613) :: (614, eT) :: (615, eF) :: [])
noncomputable def t7x11 (P : Params) : BT := puts (t7x10 P) ((616, o616) :: (617, Mine.k617) :: (618, Mine.k618) :: (619, eT) :: (620, eF) :: (621, o621) :: (622, Mine.k622) :: (623, Mine.k623) :: (624, eT) :: (625, eF) :: (626, o626) :: (627, eT) :: [])
noncomputable def t7x12 (P : Params) : BT := puts (t7x11 P) ((628, o628) :: (629, Mine.k629) :: (630, Mine.k630) :: (631, eT) :: (632, eF) :: (633, o633) :: (634, eT) :: (635, o635) :: (636, Mine.k636) :: (637, Mine.k637) :: (638, eT) :: (639, eF) :: [])
noncomputable def t7x13 (P : Params) : BT := puts (t7x12 P) ((640, o640) :: (641, Mine.k641) :: (642, Mine.k642) :: (643, eT) :: (644, eF) :: (645, o645) :: (646, Mine.k646) :: (647, Mine.k647) :: (648, eT) :: (649, eF) :: (650, o650) :: (651, Mine.k651) :: [])
noncomputable def t7 (P : Params) : BT := puts (t7x13 P) ((652, Mine.k652) :: [])
noncomputable def L6 (w : World) (os : OsState) : Option (Flow × SharedT × Code × Pos) := segRunT treeTable PySem.Challenge.pw_drawhouse_k24_parts_told_and_read w 11 (some (Value.ref 6)) 1 801 ⟨t6 w.params, nat_lit 486, { }, Array.mk [], { }, nat_lit 798, os⟩ (piecesOf (sl 43 28) env cE { line := 207, col := 0, endLine := 210, endCol := 28 } fr)
noncomputable def R6 (w : World) (os : OsState) : Option (Flow × SharedT × Code × Pos) := some (.next, ⟨t7 w.params, nat_lit 653, { }, Array.mk [], { }, nat_lit 1019, os⟩, cE, { line := 406, col := 0, endLine := 430, endCol := 15 })
theorem rL6 : L6 = L6 := rfl
name_quick L6 for Hd.L6 by Hd.rL6
theorem rR6 : R6 = R6 := rfl
name_quick R6 for Hd.R6 by Hd.rR6
theorem q6 : PySem.W.Fast.L6 = PySem.W.Fast.R6 := by kernel_rfl
theorem e6 : L6 = R6 := PySem.W.Fast.L6_eq.trans (q6.trans PySem.W.Fast.R6_eq.symm)
noncomputable def hF0 (P : Params) (r : List Obj) : List Obj := (boot_o_0 P) :: (boot_o_1 P) :: (boot_o_2 P) :: (o3 P) :: (boot_o_4 P) :: (boot_o_5 P) :: (boot_o_6 P) :: (boot_o_7 P) :: (boot_o_8 P) :: (boot_o_9 P) :: (boot_o_10 P) :: eT :: o12 :: o13 :: o14 :: eT :: r
noncomputable def hF16 (P : Params) (r : List Obj) : List Obj := o16 :: (o17 P) :: eT :: o19 :: o20 :: o21 :: eT :: eF :: o24 :: eT :: o26 :: Mine.k27 :: Mine.k28 :: eT :: eF :: o31 :: r
noncomputable def hF32 (P : Params) (r : List Obj) : List Obj := Mine.k32 :: Mine.k33 :: eT :: eF :: o36 :: eT :: o38 :: Mine.k39 :: Mine.k40 :: eT :: eF :: o43 :: Mine.k44 :: Mine.k45 :: o46 :: (Mine.k47 P) :: r
noncomputable def hF48 (P : Params) (r : List Obj) : List Obj := Mine.k48 :: Mine.k49 :: Mine.k50 :: o51 :: o52 :: o53 :: o54 :: (o55 P) :: eT :: eF :: o58 :: o59 :: eT :: (Mine.k61 P) :: Mine.k62 :: Mine.k63 :: r
noncomputable def hF64 (P : Params) (r : List Obj) : List Obj := o64 :: o65 :: o66 :: o67 :: (o68 P) :: eT :: eF :: o71 :: o72 :: eT :: (Mine.k74 P) :: Mine.k75 :: o76 :: o77 :: o78 :: o79 :: r
noncomputable def hF80 (P : Params) (r : List Obj) : List Obj := (o80 P) :: eT :: o82 :: o83 :: o84 :: eT :: eF :: o87 :: eT :: o89 :: Mine.k90 :: Mine.k91 :: o92 :: (Mine.k93 P) :: Mine.k94 :: o95 :: r
noncomputable def hF96 (P : Params) (r : List Obj) : List Obj := o96 :: o97 :: o98 :: (o99 P) :: eT :: o101 :: o102 :: o103 :: eT :: eF :: o106 :: eT :: o108 :: Mine.k109 :: Mine.k110 :: o111 :: r
noncomputable def hF112 (P : Params) (r : List Obj) : List Obj := (Mine.k112 P) :: Mine.k113 :: o114 :: o115 :: o116 :: o117 :: (o118 P) :: eT :: o120 :: o121 :: o122 :: eT :: eF :: o125 :: eT :: o127 :: r
noncomputable def hF128 (P : Params) (r : List Obj) : List Obj := Mine.k128 :: Mine.k129 :: o130 :: (Mine.k131 P) :: Mine.k132 :: o133 :: o134 :: eT :: eF :: o137 :: Mine.k138 :: Mine.k139 :: eT :: eF :: o142 :: Mine.k143 :: r
noncomputable def hF144 (P : Params) (r : List Obj) : List Obj := Mine.k144 :: eT :: eF :: o147 :: eT :: o149 :: Mine.k150 :: Mine.k151 :: eT :: eF :: o154 :: Mine.k155 :: Mine.k156 :: eT :: eF :: o159 :: r
noncomputable def hF160 (P : Params) (r : List Obj) : List Obj := eT :: o161 :: Mine.k162 :: Mine.k163 :: eT :: eF :: o166 :: eT :: o168 :: Mine.k169 :: Mine.k170 :: eT :: eF :: o173 :: eT :: o175 :: r
noncomputable def hF176 (P : Params) (r : List Obj) : List Obj := Mine.k176 :: Mine.k177 :: eT :: eF :: o180 :: eT :: o182 :: Mine.k183 :: Mine.k184 :: eT :: eF :: o187 :: eT :: o189 :: Mine.k190 :: Mine.k191 :: r
noncomputable def hF192 (P : Params) (r : List Obj) : List Obj := eT :: eF :: o194 :: eT :: o196 :: Mine.k197 :: Mine.k198 :: eT :: eF :: o201 :: Mine.k202 :: Mine.k203 :: eT :: o205 :: (o206 P) :: eT :: r
noncomputable def hF208 (P : Params) (r : List Obj) : List Obj := o208 :: o209 :: o210 :: eT :: eF :: o213 :: eT :: o215 :: Mine.k216 :: Mine.k217 :: eT :: eF :: o220 :: eT :: o222 :: Mine.k223 :: r
noncomputable def hF224 (P : Params) (r : List Obj) : List Obj := Mine.k224 :: eT :: eF :: o227 :: eT :: o229 :: Mine.k230 :: Mine.k231 :: eT :: (Mine.k233 P) :: Mine.k234 :: Mine.k235 :: Mine.k236 :: o237 :: o238 :: o239 :: r
noncomputable def hF240 (P : Params) (r : List Obj) : List Obj := o240 :: (o241 P) :: eT :: o243 :: o244 :: o245 :: eT :: eF :: o248 :: eT :: o250 :: Mine.k251 :: Mine.k252 :: eT :: eF :: o255 :: r
noncomputable def hF256 (P : Params) (r : List Obj) : List Obj := eT :: o257 :: Mine.k258 :: Mine.k259 :: eT :: eF :: o262 :: eT :: o264 :: Mine.k265 :: Mine.k266 :: o267 :: (Mine.k268 P) :: Mine.k269 :: o270 :: o271 :: r
noncomputable def hF272 (P : Params) (r : List Obj) : List Obj := o272 :: o273 :: (o274 P) :: eT :: o276 :: o277 :: o278 :: eT :: eF :: o281 :: eT :: o283 :: Mine.k284 :: Mine.k285 :: eT :: eF :: r
noncomputable def hF288 (P : Params) (r : List Obj) : List Obj := o288 :: eT :: o290 :: Mine.k291 :: Mine.k292 :: eT :: eF :: o295 :: eT :: o297 :: Mine.k298 :: Mine.k299 :: o300 :: (Mine.k301 P) :: Mine.k302 :: o303 :: r
noncomputable def hF304 (P : Params) (r : List Obj) : List Obj := o304 :: o305 :: o306 :: (o307 P) :: eT :: o309 :: o310 :: o311 :: eT :: eF :: o314 :: eT :: o316 :: Mine.k317 :: Mine.k318 :: eT :: r
noncomputable def hF320 (P : Params) (r : List Obj) : List Obj := eF :: o321 :: eT :: o323 :: Mine.k324 :: Mine.k325 :: eT :: eF :: o328 :: eT :: o330 :: Mine.k331 :: Mine.k332 :: eT :: eF :: o335 :: r
noncomputable def hF336 (P : Params) (r : List Obj) : List Obj := eT :: o337 :: Mine.k338 :: Mine.k339 :: o340 :: (Mine.k341 P) :: Mine.k342 :: o343 :: o344 :: o345 :: o346 :: (o347 P) :: eT :: o349 :: o350 :: o351 :: r
noncomputable def hF352 (P : Params) (r : List Obj) : List Obj := eT :: eF :: o354 :: eT :: o356 :: Mine.k357 :: Mine.k358 :: eT :: eF :: o361 :: eT :: o363 :: Mine.k364 :: Mine.k365 :: eT :: eF :: r
noncomputable def hF368 (P : Params) (r : List Obj) : List Obj := o368 :: eT :: o370 :: Mine.k371 :: Mine.k372 :: eT :: eF :: o375 :: eT :: o377 :: Mine.k378 :: Mine.k379 :: o380 :: (Mine.k381 P) :: Mine.k382 :: o383 :: r
noncomputable def hF384 (P : Params) (r : List Obj) : List Obj := o384 :: o385 :: o386 :: (o387 P) :: eT :: o389 :: o390 :: o391 :: eT :: eF :: o394 :: eT :: o396 :: Mine.k397 :: Mine.k398 :: eT :: r
noncomputable def hF400 (P : Params) (r : List Obj) : List Obj := eF :: o401 :: eT :: o403 :: Mine.k404 :: Mine.k405 :: eT :: eF :: o408 :: eT :: o410 :: Mine.k411 :: Mine.k412 :: eT :: eF :: o415 :: r
noncomputable def hF416 (P : Params) (r : List Obj) : List Obj := eT :: o417 :: Mine.k418 :: Mine.k419 :: o420 :: (Mine.k421 P) :: Mine.k422 :: o423 :: o424 :: o425 :: o426 :: (o427 P) :: eT :: o429 :: o430 :: o431 :: r
noncomputable def hF432 (P : Params) (r : List Obj) : List Obj := eT :: eF :: o434 :: eT :: o436 :: Mine.k437 :: Mine.k438 :: eT :: eF :: o441 :: eT :: o443 :: Mine.k444 :: Mine.k445 :: o446 :: (Mine.k447 P) :: r
noncomputable def hF448 (P : Params) (r : List Obj) : List Obj := Mine.k448 :: o449 :: o450 :: eT :: eF :: o453 :: eT :: o455 :: Mine.k456 :: Mine.k457 :: eT :: eF :: o460 :: eT :: o462 :: Mine.k463 :: r
noncomputable def hF464 (P : Params) (r : List Obj) : List Obj := Mine.k464 :: eT :: eF :: o467 :: eT :: o469 :: Mine.k470 :: Mine.k471 :: eT :: eF :: o474 :: eT :: o476 :: Mine.k477 :: Mine.k478 :: eT :: r
noncomputable def hF480 (P : Params) (r : List Obj) : List Obj := eF :: o481 :: eT :: o483 :: Mine.k484 :: Mine.k485 :: eT :: eF :: o488 :: eT :: o490 :: Mine.k491 :: Mine.k492 :: eT :: eF :: o495 :: r
noncomputable def hF496 (P : Params) (r : List Obj) : List Obj := eT :: o497 :: Mine.k498 :: Mine.k499 :: eT :: eF :: o502 :: eT :: o504 :: Mine.k505 :: Mine.k506 :: eT :: eF :: o509 :: eT :: o511 :: r
noncomputable def hF512 (P : Params) (r : List Obj) : List Obj := Mine.k512 :: Mine.k513 :: eT :: eF :: o516 :: eT :: o518 :: Mine.k519 :: Mine.k520 :: eT :: eF :: o523 :: eT :: o525 :: Mine.k526 :: Mine.k527 :: r
noncomputable def hF528 (P : Params) (r : List Obj) : List Obj := eT :: eF :: o530 :: eT :: o532 :: Mine.k533 :: Mine.k534 :: eT :: eF :: o537 :: eT :: o539 :: Mine.k540 :: Mine.k541 :: eT :: eF :: r
noncomputable def hF544 (P : Params) (r : List Obj) : List Obj := o544 :: Mine.k545 :: Mine.k546 :: eT :: eF :: o549 :: Mine.k550 :: Mine.k551 :: eT :: eF :: o554 :: eT :: o556 :: Mine.k557 :: Mine.k558 :: eT :: r
noncomputable def hF560 (P : Params) (r : List Obj) : List Obj := eF :: o561 :: Mine.k562 :: Mine.k563 :: eT :: eF :: o566 :: Mine.k567 :: Mine.k568 :: eT :: eF :: o571 :: Mine.k572 :: Mine.k573 :: eT :: eF :: r
noncomputable def hF576 (P : Params) (r : List Obj) : List Obj := o576 :: eT :: o578 :: Mine.k579 :: Mine.k580 :: eT :: eF :: o583 :: eT :: o585 :: Mine.k586 :: Mine.k587 :: eT :: eF :: o590 :: Mine.k591 :: r
noncomputable def hF592 (P : Params) (r : List Obj) : List Obj := Mine.k592 :: eT :: eF :: o595 :: eT :: o597 :: Mine.k598 :: Mine.k599 :: eT :: eF :: o602 :: eT :: o604 :: Mine.k605 :: Mine.k606 :: eT :: r
noncomputable def hF608 (P : Params) (r : List Obj) : List Obj := eF :: o609 :: eT :: o611 :: Mine.k612 :: Mine.k613 :: eT :: eF :: o616 :: Mine.k617 :: Mine.k618 :: eT :: eF :: o621 :: Mine.k622 :: Mine.k623 :: r
noncomputable def hF624 (P : Params) (r : List Obj) : List Obj := eT :: eF :: o626 :: eT :: o628 :: Mine.k629 :: Mine.k630 :: eT :: eF :: o633 :: eT :: o635 :: Mine.k636 :: Mine.k637 :: eT :: eF :: r
noncomputable def hF640 (P : Params) (r : List Obj) : List Obj := o640 :: Mine.k641 :: Mine.k642 :: eT :: eF :: o645 :: Mine.k646 :: Mine.k647 :: eT :: eF :: o650 :: Mine.k651 :: Mine.k652 :: r
noncomputable def hF (P : Params) : Heap := ⟨Array.mk (hF0 P (hF16 P (hF32 P (hF48 P (hF64 P (hF80 P (hF96 P (hF112 P (hF128 P (hF144 P (hF160 P (hF176 P (hF192 P (hF208 P (hF224 P (hF240 P (hF256 P (hF272 P (hF288 P (hF304 P (hF320 P (hF336 P (hF352 P (hF368 P (hF384 P (hF400 P (hF416 P (hF432 P (hF448 P (hF464 P (hF480 P (hF496 P (hF512 P (hF528 P (hF544 P (hF560 P (hF576 P (hF592 P (hF608 P (hF624 P (hF640 P ([])))))))))))))))))))))))))))))))))))))))))), { }⟩
noncomputable def Lf (w : World) (os : OsState) : Option Shared := topRun treeTable PySem.Challenge.pw_drawhouse_k24_parts_told_and_read w 11 (some (Value.ref 6)) 2 (SharedT.abs ⟨t7 w.params, nat_lit 653, { }, Array.mk [], { }, nat_lit 1019, os⟩) ⟨doneF .next, cE, { line := 406, col := 0, endLine := 430, endCol := 15 }, fr⟩
noncomputable def Rf (w : World) (os : OsState) : Option Shared := some ⟨hF w.params, Array.mk [], { }, nat_lit 1019, os⟩
theorem rLf : Lf = Lf := rfl
name_quick Lf for Hd.Lf by Hd.rLf
theorem rRf : Rf = Rf := rfl
name_quick Rf for Hd.Rf by Hd.rRf
theorem qf : PySem.W.Fast.Lf = PySem.W.Fast.Rf := by kernel_rfl
theorem ef : Lf = Rf := PySem.W.Fast.Lf_eq.trans (qf.trans PySem.W.Fast.Rf_eq.symm)
theorem ed : (behindTheImports PySem.Challenge.pw_drawhouse_k24_parts_told_and_read).drop 71 = [] := by kernel_rfl
theorem pd {w : World} {k m n N : Nat} {s s' r : Shared} {c : Code} {pos p' : Pos} (h : segRun treeTable PySem.Challenge.pw_drawhouse_k24_parts_told_and_read w 11 (some (Value.ref 6)) 1 n s (piecesOf (sl k m) env c pos fr) = some (.next, s', c, p'))
    (k2 : topRun treeTable PySem.Challenge.pw_drawhouse_k24_parts_told_and_read w 11 (some (Value.ref 6)) N s' (restOf ((behindTheImports PySem.Challenge.pw_drawhouse_k24_parts_told_and_read).drop (k + m)) env c p' fr) = some r) : topRun treeTable PySem.Challenge.pw_drawhouse_k24_parts_told_and_read w 11 (some (Value.ref 6)) (n + N) s (restOf ((behindTheImports PySem.Challenge.pw_drawhouse_k24_parts_told_and_read).drop k) env c pos fr) = some r := by
  have z := piece_app h k2
  have e : sl k m ++ (behindTheImports PySem.Challenge.pw_drawhouse_k24_parts_told_and_read).drop (k + m) = (behindTheImports PySem.Challenge.pw_drawhouse_k24_parts_told_and_read).drop k := by
    unfold sl
    rw [← List.drop_drop]
    exact List.take_append_drop m _
  rwa [e] at z
theorem run (w : World) (os : OsState) : topRun treeTable PySem.Challenge.pw_drawhouse_k24_parts_told_and_read w 11 (some (Value.ref 6)) (12 + (1 + (732 + (798 + (628 + (619 + (681 + (784 + (801 + (2)))))))))) ⟨boot_heap w.params, Array.mk [], boot_drawn, boot_toks, os⟩ (topStub PySem.Challenge.pw_drawhouse_k24_parts_told_and_read) = some ⟨hF w.params, Array.mk [], { }, nat_lit 1019, os⟩ :=
  go_top (congrFun (congrFun ep w) os) (piece_block (congrFun (congrFun eb w) os)
    (pd (k := 0) (m := 5) (segRun_of (congrFun (congrFun e0 w) os))
    (pd (k := 5) (m := 8) (segRun_of (congrFun (congrFun e1 w) os))
    (pd (k := 13) (m := 17) (segRun_of (congrFun (congrFun e2 w) os))
    (pd (k := 30) (m := 2) (segRun_of (congrFun (congrFun e3 w) os))
    (pd (k := 32) (m := 2) (segRun_of (congrFun (congrFun e4 w) os))
    (pd (k := 34) (m := 9) (segRun_of (congrFun (congrFun e5 w) os))
    (pd (k := 43) (m := 28) (segRun_of (congrFun (congrFun e6 w) os))
    (by rw [show 43 + 28 = 71 from rfl, ed]; exact piece_nil (congrFun (congrFun ef w) os))))))))))
noncomputable def qv : Program := { PySem.Challenge.pw_drawhouse_k24_parts_told_and_read with main := { PySem.Challenge.pw_drawhouse_k24_parts_told_and_read.main with body := (1 :: 3 :: 4 :: 5 :: 6 :: 7 :: 9 :: 10 :: 11 :: 12 :: 13 :: 14 :: 16 :: 17 :: 18 :: 19 :: 20 :: 21 :: 22 :: 23 :: 24 :: 25 :: 26 :: 27 :: 29 :: 30 :: 31 :: 32 :: 33 :: 34 :: 35 :: 37 :: 38 :: 39 :: 40 :: 41 :: 42 :: 43 :: 44 :: 45 :: 46 :: 48 :: 49 :: 50 :: 51 :: 52 :: 53 :: 54 :: 55 :: 56 :: 57 :: 58 :: 59 :: 60 :: 61 :: 62 :: 63 :: 64 :: 65 :: 66 :: 67 :: 68 :: 69 :: 70 :: []).filterMap fun i => PySem.Challenge.pw_drawhouse_k24_parts_told_and_read.main.body[i]? } }
noncomputable def loose : List Str := []
noncomputable def lv : List (Str × WData) := []
noncomputable def xt (s : Shared) : Bool := xlAt qv lv s && recOk (RowW.records (OpenRow.toRowW (OpenLaw.row PySem.Challenge.rw_drawhouse_k24_parts_told_and_read))) s
noncomputable def as : List Addr := nat_lit 2 :: nat_lit 3 :: nat_lit 27 :: nat_lit 28 :: nat_lit 32 :: nat_lit 33 :: nat_lit 39 :: nat_lit 40 :: nat_lit 44 :: nat_lit 45 :: nat_lit 47 :: nat_lit 48 :: nat_lit 49 :: nat_lit 50 :: nat_lit 61 :: nat_lit 62 :: nat_lit 63 :: nat_lit 74 :: nat_lit 75 :: nat_lit 90 :: nat_lit 91 :: nat_lit 93 :: nat_lit 94 :: nat_lit 109 :: nat_lit 110 :: nat_lit 112 :: nat_lit 113 :: nat_lit 128 :: nat_lit 129 :: nat_lit 131 :: nat_lit 132 :: nat_lit 138 :: nat_lit 139 :: nat_lit 143 :: nat_lit 144 :: nat_lit 150 :: nat_lit 151 :: nat_lit 155 :: nat_lit 156 :: nat_lit 162 :: nat_lit 163 :: nat_lit 169 :: nat_lit 170 :: nat_lit 176 :: nat_lit 177 :: nat_lit 183 :: nat_lit 184 :: nat_lit 190 :: nat_lit 191 :: nat_lit 197 :: nat_lit 198 :: nat_lit 202 :: nat_lit 203 :: nat_lit 216 :: nat_lit 217 :: nat_lit 223 :: nat_lit 224 :: nat_lit 230 :: nat_lit 231 :: nat_lit 233 :: nat_lit 234 :: nat_lit 235 :: nat_lit 236 :: nat_lit 251 :: nat_lit 252 :: nat_lit 258 :: nat_lit 259 :: nat_lit 265 :: nat_lit 266 :: nat_lit 268 :: nat_lit 269 :: nat_lit 284 :: nat_lit 285 :: nat_lit 291 :: nat_lit 292 :: nat_lit 298 :: nat_lit 299 :: nat_lit 301 :: nat_lit 302 :: nat_lit 317 :: nat_lit 318 :: nat_lit 324 :: nat_lit 325 :: nat_lit 331 :: nat_lit 332 :: nat_lit 338 :: nat_lit 339 :: nat_lit 341 :: nat_lit 342 :: nat_lit 357 :: nat_lit 358 :: nat_lit 364 :: nat_lit 365 :: nat_lit 371 :: nat_lit 372 :: nat_lit 378 :: nat_lit 379 :: nat_lit 381 :: nat_lit 382 :: nat_lit 397 :: nat_lit 398 :: nat_lit 404 :: nat_lit 405 :: nat_lit 411 :: nat_lit 412 :: nat_lit 418 :: nat_lit 419 :: nat_lit 421 :: nat_lit 422 :: nat_lit 437 :: nat_lit 438 :: nat_lit 444 :: nat_lit 445 :: nat_lit 447 :: nat_lit 448 :: nat_lit 456 :: nat_lit 457 :: nat_lit 463 :: nat_lit 464 :: nat_lit 470 :: nat_lit 471 :: nat_lit 477 :: nat_lit 478 :: nat_lit 484 :: nat_lit 485 :: nat_lit 491 :: nat_lit 492 :: nat_lit 498 :: nat_lit 499 :: nat_lit 505 :: nat_lit 506 :: nat_lit 512 :: nat_lit 513 :: nat_lit 519 :: nat_lit 520 :: nat_lit 526 :: nat_lit 527 :: nat_lit 533 :: nat_lit 534 :: nat_lit 540 :: nat_lit 541 :: nat_lit 545 :: nat_lit 546 :: nat_lit 550 :: nat_lit 551 :: nat_lit 557 :: nat_lit 558 :: nat_lit 562 :: nat_lit 563 :: nat_lit 567 :: nat_lit 568 :: nat_lit 572 :: nat_lit 573 :: nat_lit 579 :: nat_lit 580 :: nat_lit 586 :: nat_lit 587 :: nat_lit 591 :: nat_lit 592 :: nat_lit 598 :: nat_lit 599 :: nat_lit 605 :: nat_lit 606 :: nat_lit 612 :: nat_lit 613 :: nat_lit 617 :: nat_lit 618 :: nat_lit 622 :: nat_lit 623 :: nat_lit 629 :: nat_lit 630 :: nat_lit 636 :: nat_lit 637 :: nat_lit 641 :: nat_lit 642 :: nat_lit 646 :: nat_lit 647 :: nat_lit 651 :: nat_lit 652 :: []
theorem ke (P : Params) : as = (Mine.myK P).map (·.1) := by kernel_rfl
noncomputable def Ls (w : World) : Bool × Nat × Option Value := ((boot_heap w.params).isNs mainGlobals && (Array.mk [] : Array GenState).size == 0, (boot_heap w.params).objs.size, (boot_heap w.params).nsMap mainGlobals "__annotations__")
noncomputable def Rs (w : World) : Bool × Nat × Option Value := (true, 11, some (Value.ref 6))
theorem es : Ls = Rs := by kernel_rfl
noncomputable def Lk0 (w : World) (os : OsState) : Bool := staticsOk (importedModules PySem.Challenge.pw_drawhouse_k24_parts_told_and_read.main.body) (boot_heap w.params) (hF w.params) && namesBound PySem.Challenge.pw_drawhouse_k24_parts_told_and_read (hF w.params) && gensDone ⟨hF w.params, Array.mk [], { }, nat_lit 1019, os⟩ && laidKept (boot_heap w.params) (hF w.params)
noncomputable def Rk0 (_ : World) (_ : OsState) : Bool := true
theorem rLk0 : Lk0 = Lk0 := rfl
name_quick Lk0 for Hd.Lk0 by Hd.rLk0
theorem qk0 : PySem.W.Fast.Lk0 = Rk0 := by kernel_rfl
theorem ek0 : Lk0 = Rk0 := PySem.W.Fast.Lk0_eq.trans qk0
noncomputable def Lk1 (w : World) (os : OsState) := (openSeen qv loose (importedModules PySem.Challenge.pw_drawhouse_k24_parts_told_and_read.main.body) xt true ⟨hF w.params, Array.mk [], { }, nat_lit 1019, os⟩).1
noncomputable def Rk1 (_ : World) (_ : OsState) := (openGood qv loose).1
theorem rLk1 : Lk1 = Lk1 := rfl
name_quick Lk1 for Hd.Lk1 by Hd.rLk1
theorem rRk1 : Rk1 = Rk1 := rfl
name_quick Rk1 for Hd.Rk1 by Hd.rRk1
theorem qk1 : PySem.W.Fast.Lk1 = PySem.W.Fast.Rk1 := by kernel_rfl
theorem ek1 : Lk1 = Rk1 := PySem.W.Fast.Lk1_eq.trans (qk1.trans PySem.W.Fast.Rk1_eq.symm)
noncomputable def Lk2 (w : World) (os : OsState) := (openSeen qv loose (importedModules PySem.Challenge.pw_drawhouse_k24_parts_told_and_read.main.body) xt true ⟨hF w.params, Array.mk [], { }, nat_lit 1019, os⟩).2.1
noncomputable def Rk2 (_ : World) (_ : OsState) := (openGood qv loose).2.1
theorem rLk2 : Lk2 = Lk2 := rfl
name_quick Lk2 for Hd.Lk2 by Hd.rLk2
theorem qk2 : PySem.W.Fast.Lk2 = Rk2 := by kernel_rfl
theorem ek2 : Lk2 = Rk2 := PySem.W.Fast.Lk2_eq.trans qk2
noncomputable def Lk3 (w : World) (os : OsState) := (openSeen qv loose (importedModules PySem.Challenge.pw_drawhouse_k24_parts_told_and_read.main.body) xt true ⟨hF w.params, Array.mk [], { }, nat_lit 1019, os⟩).2.2.1
noncomputable def Rk3 (_ : World) (_ : OsState) := (openGood qv loose).2.2.1
theorem rLk3 : Lk3 = Lk3 := rfl
name_quick Lk3 for Hd.Lk3 by Hd.rLk3
theorem qk3 : PySem.W.Fast.Lk3 = Rk3 := by kernel_rfl
theorem ek3 : Lk3 = Rk3 := PySem.W.Fast.Lk3_eq.trans qk3
noncomputable def Lk4 (w : World) (os : OsState) := (openSeen qv loose (importedModules PySem.Challenge.pw_drawhouse_k24_parts_told_and_read.main.body) xt true ⟨hF w.params, Array.mk [], { }, nat_lit 1019, os⟩).2.2.2.1
noncomputable def Rk4 (_ : World) (_ : OsState) := (openGood qv loose).2.2.2.1
theorem rLk4 : Lk4 = Lk4 := rfl
name_quick Lk4 for Hd.Lk4 by Hd.rLk4
theorem qk4 : PySem.W.Fast.Lk4 = Rk4 := by kernel_rfl
theorem ek4 : Lk4 = Rk4 := PySem.W.Fast.Lk4_eq.trans qk4
noncomputable def Lk5 (w : World) (os : OsState) := (openSeen qv loose (importedModules PySem.Challenge.pw_drawhouse_k24_parts_told_and_read.main.body) xt true ⟨hF w.params, Array.mk [], { }, nat_lit 1019, os⟩).2.2.2.2.1
noncomputable def Rk5 (_ : World) (_ : OsState) := (openGood qv loose).2.2.2.2.1
theorem rLk5 : Lk5 = Lk5 := rfl
name_quick Lk5 for Hd.Lk5 by Hd.rLk5
theorem rRk5 : Rk5 = Rk5 := rfl
name_quick Rk5 for Hd.Rk5 by Hd.rRk5
theorem qk5 : PySem.W.Fast.Lk5 = PySem.W.Fast.Rk5 := by kernel_rfl
theorem ek5 : Lk5 = Rk5 := PySem.W.Fast.Lk5_eq.trans (qk5.trans PySem.W.Fast.Rk5_eq.symm)
noncomputable def Lk6 (w : World) (os : OsState) := (openSeen qv loose (importedModules PySem.Challenge.pw_drawhouse_k24_parts_told_and_read.main.body) xt true ⟨hF w.params, Array.mk [], { }, nat_lit 1019, os⟩).2.2.2.2.2.1
noncomputable def Rk6 (_ : World) (_ : OsState) := (openGood qv loose).2.2.2.2.2.1
theorem rLk6 : Lk6 = Lk6 := rfl
name_quick Lk6 for Hd.Lk6 by Hd.rLk6
theorem rRk6 : Rk6 = Rk6 := rfl
name_quick Rk6 for Hd.Rk6 by Hd.rRk6
theorem qk6 : PySem.W.Fast.Lk6 = PySem.W.Fast.Rk6 := by kernel_rfl
theorem ek6 : Lk6 = Rk6 := PySem.W.Fast.Lk6_eq.trans (qk6.trans PySem.W.Fast.Rk6_eq.symm)
noncomputable def Lk7 (w : World) (os : OsState) := (openSeen qv loose (importedModules PySem.Challenge.pw_drawhouse_k24_parts_told_and_read.main.body) xt true ⟨hF w.params, Array.mk [], { }, nat_lit 1019, os⟩).2.2.2.2.2.2.1
noncomputable def Rk7 (_ : World) (_ : OsState) := (openGood qv loose).2.2.2.2.2.2.1
theorem rLk7 : Lk7 = Lk7 := rfl
name_quick Lk7 for Hd.Lk7 by Hd.rLk7
theorem rRk7 : Rk7 = Rk7 := rfl
name_quick Rk7 for Hd.Rk7 by Hd.rRk7
theorem qk7 : PySem.W.Fast.Lk7 = PySem.W.Fast.Rk7 := by kernel_rfl
theorem ek7 : Lk7 = Rk7 := PySem.W.Fast.Lk7_eq.trans (qk7.trans PySem.W.Fast.Rk7_eq.symm)
noncomputable def Lk8 (w : World) (os : OsState) := (openSeen qv loose (importedModules PySem.Challenge.pw_drawhouse_k24_parts_told_and_read.main.body) xt true ⟨hF w.params, Array.mk [], { }, nat_lit 1019, os⟩).2.2.2.2.2.2.2.1
noncomputable def Rk8 (_ : World) (_ : OsState) := (openGood qv loose).2.2.2.2.2.2.2.1
theorem rLk8 : Lk8 = Lk8 := rfl
name_quick Lk8 for Hd.Lk8 by Hd.rLk8
theorem rRk8 : Rk8 = Rk8 := rfl
name_quick Rk8 for Hd.Rk8 by Hd.rRk8
theorem qk8 : PySem.W.Fast.Lk8 = PySem.W.Fast.Rk8 := by kernel_rfl
theorem ek8 : Lk8 = Rk8 := PySem.W.Fast.Lk8_eq.trans (qk8.trans PySem.W.Fast.Rk8_eq.symm)
noncomputable def Lk9 (w : World) (os : OsState) := (openSeen qv loose (importedModules PySem.Challenge.pw_drawhouse_k24_parts_told_and_read.main.body) xt true ⟨hF w.params, Array.mk [], { }, nat_lit 1019, os⟩).2.2.2.2.2.2.2.2
noncomputable def Rk9 (_ : World) (_ : OsState) := (openGood qv loose).2.2.2.2.2.2.2.2
theorem rLk9 : Lk9 = Lk9 := rfl
name_quick Lk9 for Hd.Lk9 by Hd.rLk9
theorem rRk9 : Rk9 = Rk9 := rfl
name_quick Rk9 for Hd.Rk9 by Hd.rRk9
theorem qk9 : PySem.W.Fast.Lk9 = PySem.W.Fast.Rk9 := by kernel_rfl
theorem ek9 : Lk9 = Rk9 := PySem.W.Fast.Lk9_eq.trans (qk9.trans PySem.W.Fast.Rk9_eq.symm)
noncomputable def Lk10 (w : World) (_ : OsState) : List (Option Obj) := as.map (hF w.params).get?
noncomputable def Rk10 (w : World) (_ : OsState) : List (Option Obj) := (Mine.myK w.params).map fun p => some p.2
theorem ek10 : Lk10 = Rk10 := by kernel_rfl
theorem c {α : Type} {f g : World → OsState → α} (h : f = g) {w : World} {os : OsState} : f w os = g w os := h ▸ rfl
theorem ek (w : World) : (fun os => ((staticsOk (importedModules PySem.Challenge.pw_drawhouse_k24_parts_told_and_read.main.body) (boot_heap w.params) (hF w.params) && namesBound PySem.Challenge.pw_drawhouse_k24_parts_told_and_read (hF w.params) && gensDone ⟨hF w.params, Array.mk [], { }, nat_lit 1019, os⟩ && laidKept (boot_heap w.params) (hF w.params)), openSeen qv loose (importedModules PySem.Challenge.pw_drawhouse_k24_parts_told_and_read.main.body) xt true ⟨hF w.params, Array.mk [], { }, nat_lit 1019, os⟩, Hook.obs (kHook Mine.myK as ke) ⟨hF w.params, Array.mk [], { }, nat_lit 1019, os⟩)) = fun _ => (true, openGood qv loose, Hook.val (kHook Mine.myK as ke) w) :=
  funext fun os => Prod.ext (congrFun (congrFun ek0 w) os) (Prod.ext (Prod.ext (c ek1) (Prod.ext (c ek2) (Prod.ext (c ek3) (Prod.ext (c ek4) (Prod.ext (c ek5) (Prod.ext (c ek6) (Prod.ext (c ek7) (Prod.ext (c ek8) (c ek9))))))))) (congrFun (congrFun ek10 w) os))
theorem op : opening PySem.Challenge.pw_drawhouse_k24_parts_told_and_read = plainProg PySem.Challenge.pw_drawhouse_k24_parts_told_and_read.main.scope.names := by kernel_rfl
theorem fn (s : Shared) : fenceModules? PySem.Challenge.pw_drawhouse_k24_parts_told_and_read s = some s := by kernel_rfl
theorem left : LeftO PySem.Challenge.pw_drawhouse_k24_parts_told_and_read qv loose xt (Hook.obs (kHook Mine.myK as ke)) (Hook.val (kHook Mine.myK as ke)) 10198 true := by
  refine LeftO.of_pieces (boot_open op rfl fn) (congrFun es) run rfl ek
end Hd
open PySem PySem.W PyProof.Rows
set_option maxRecDepth 100000 in
set_option maxHeartbeats 0 in
theorem PySem.Challenge.cw_drawhouse_k24_parts_told_and_read_holds : PySem.Challenge.rw_drawhouse_k24_parts_told_and_read.Holds := by
  w_on; o_law
  refine holds_open (r := OpenLaw.row PySem.Challenge.rw_drawhouse_k24_parts_told_and_read) (q := Hd.qv) (loose := Hd.loose) (Xt := Hd.xt) (XP := XL Hd.qv Hd.lv) (Yf := Hook.obs (kHook Mine.myK Hd.as Hd.ke)) (Ya := Hook.val (kHook Mine.myK Hd.as Hd.ke))
    (YP := Hook.says (kHook Mine.myK Hd.as Hd.ke)) Hd.left (Hook.of (kHook Mine.myK Hd.as Hd.ke)) (Hook.keeps (kHook Mine.myK Hd.as Hd.ke)) (fun s e => xl_of s (Bool.and_eq_true_iff.mp e).1) XL.keeps (by rfl) (by rfl) (by rfl)
    (fun s e => recFacts_of (Bool.and_eq_true_iff.mp e).2) rfl (by assumption) (by decide +kernel) ⟨rfl, rfl, rfl, rfl, rfl, by decide +kernel⟩ ?hw ?hc
  (case hw => w_witness2)
  k_fill
  refine Mine.walk (l := PySem.Challenge.rw_drawhouse_k24_parts_told_and_read) rfl rfl (fun w h Y => PySem.W.kIn_of Y) ?F
  case F =>
    intro w mg fa h KX G hmg
    refine' Mine.all_mk KX G hmg (Mine.fi ?_ ?_ ?_ ?_) (Mine.fi ?_ ?_ ?_ ?_) (Mine.fi ?_ ?_ ?_ ?_) (Mine.fi ?_ ?_ ?_ ?_) (Mine.fi ?_ ?_ ?_ ?_) (Mine.fi ?_ ?_ ?_ ?_) (Mine.fi ?_ ?_ ?_ ?_) (Mine.fi ?_ ?_ ?_ ?_) (Mine.fi ?_ ?_ ?_ ?_) (Mine.fi ?_ ?_ ?_ ?_) (Mine.fi ?_ ?_ ?_ ?_) (Mine.fi ?_ ?_ ?_ ?_) (Mine.fi ?_ ?_ ?_ ?_) (Mine.fi ?_ ?_ ?_ ?_) (Mine.fi ?_ ?_ ?_ ?_) (Mine.fi ?_ ?_ ?_ ?_) (Mine.fi ?_ ?_ ?_ ?_) (Mine.fi ?_ ?_ ?_ ?_) (Mine.fi ?_ ?_ ?_ ?_) (Mine.fi ?_ ?_ ?_ ?_) (Mine.fi ?_ ?_ ?_ ?_) (Mine.fi ?_ ?_ ?_ ?_) (Mine.fi ?_ ?_ ?_ ?_) (Mine.fi ?_ ?_ ?_ ?_) (Mine.fi ?_ ?_ ?_ ?_) (Mine.fi ?_ ?_ ?_ ?_) (Mine.fi ?_ ?_ ?_ ?_) (Mine.fi ?_ ?_ ?_ ?_) (Mine.fi ?_ ?_ ?_ ?_) (Mine.fi ?_ ?_ ?_ ?_) (Mine.fi ?_ ?_ ?_ ?_) (Mine.fi ?_ ?_ ?_ ?_) (Mine.fi ?_ ?_ ?_ ?_) (Mine.fi ?_ ?_ ?_ ?_) (Mine.fi ?_ ?_ ?_ ?_) (Mine.fi ?_ ?_ ?_ ?_) (Mine.fi ?_ ?_ ?_ ?_) (Mine.fi ?_ ?_ ?_ ?_) (Mine.fi ?_ ?_ ?_ ?_) (Mine.fi ?_ ?_ ?_ ?_) (Mine.fi ?_ ?_ ?_ ?_) (Mine.fi ?_ ?_ ?_ ?_) (Mine.fi ?_ ?_ ?_ ?_) ⟨?_, ?_, ?_, ?_, ?_, ?_, ?_, ?_, ?_, ?_, ?_⟩ ⟨?_, ?_, ?_, ?_, ?_, ?_, ?_, ?_, ?_, ?_, ?_⟩ ⟨?_, ?_, ?_, ?_, ?_, ?_, ?_, ?_, ?_, ?_, ?_⟩ ⟨?_, ?_, ?_, ?_, ?_, ?_, ?_, ?_, ?_, ?_, ?_⟩ ⟨?_, ?_, ?_, ?_, ?_, ?_, ?_, ?_, ?_, ?_, ?_⟩ ⟨?_, ?_, ?_, ?_, ?_, ?_, ?_, ?_, ?_, ?_, ?_⟩ ⟨?_, ?_, ?_, ?_, ?_, ?_, ?_, ?_, ?_, ?_, ?_⟩ ⟨?_, ?_, ?_, ?_, ?_, ?_, ?_, ?_, ?_, ?_, ?_⟩ ?_ ?_ ?_ ?_ ?_ ?_ ?_ ?_ ?_ ?_ ?_ ?_ ?_ ?_ ?_ ?_ ?_ ?_ ?_ ?_ ?_ ?_ ?_ ?_ ?_ ?_ ?_ ?_ ?_ ?_ ?_ ?_ ?_ ?_ ?_ ?_ ?_ ?_ ?_ ?_ ?_ ?_ ?_ ?_ ?_ ?_ ?_ ?_ ?_ ?_ ?_ ?_ ?_ ?_ ?_ ?_ ?_ ?_ ?_ ?_ ?_ ?_ ?_ ?_ ?_ ?_ ?_ ?_ ?_ ?_ ?_ ?_ ?_ (Mine.mi ?_ ?_ ?_ ?_) ?_ (Mine.mi ?_ ?_ ?_ ?_) ?_ (Mine.mi ?_ ?_ ?_ ?_) ?_ (Mine.mi ?_ ?_ ?_ ?_) ?_ ?_ (Mine.mi ?_ ?_ ?_ ?_) ?_ ?_ ?_ ?_ (Mine.mi ?_ ?_ ?_ ?_) ?_ (Mine.mi ?_ ?_ ?_ ?_) ?_ (Mine.mi ?_ ?_ ?_ ?_) ?_ (Mine.mi ?_ ?_ ?_ ?_) ?_ (Mine.mi ?_ ?_ ?_ ?_) ?_ (Mine.mi ?_ ?_ ?_ ?_) ?_ (Mine.mi ?_ ?_ ?_ ?_) ?_ (Mine.mi ?_ ?_ ?_ ?_) ?_ (Mine.mi ?_ ?_ ?_ ?_) ?_ (Mine.mi ?_ ?_ ?_ ?_) ?_ (Mine.mi ?_ ?_ ?_ ?_) ?_ (Mine.mi ?_ ?_ ?_ ?_) ?_ (Mine.mi ?_ ?_ ?_ ?_) ?_ (Mine.mi ?_ ?_ ?_ ?_) ?_ (Mine.mi ?_ ?_ ?_ ?_) ?_ (Mine.mi ?_ ?_ ?_ ?_) ?_ (Mine.mi ?_ ?_ ?_ ?_) ?_ (Mine.mi ?_ ?_ ?_ ?_) ?_ (Mine.mi ?_ ?_ ?_ ?_) ?_ (Mine.mi ?_ ?_ ?_ ?_) ?_ (Mine.mi ?_ ?_ ?_ ?_) ?_ (Mine.mi ?_ ?_ ?_ ?_) ?_ ?_ ?_ ?_ ?_ ?_ ?_ ?_ ?_ ?_ ?_ ?_ ?_ ?_ ?_ ?_ ?_ ?_ ?_ ?_ ?_ ?_ ?_ ?_ ?_
    any_goals k_is
#print axioms PySem.Challenge.cw_drawhouse_k24_parts_told_and_read_holds
